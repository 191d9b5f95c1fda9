import PyProof.Rows.All
import Wide.All
import OpenK.AllK
import Wide.FinOn
import Lean
import PyProof.EqAt
import PyProof.EqKinds
import PyProof.TupleCall
import PyProof.NeKinds
import KE.KDictSum
import PyProof.Rows.SortRuns
import PySem.SetOps
import PyProof.Rows.SetFrom
import PyProof.DictWalks
import PyProof.FactsAll.set_1
import PyProof.FactsAll.set_2
import PyProof.MakeMany
import PyProof.CollectWalk
import PyProof.Rows.SortShell
import PyProof.StrWalks
import PyProof.StrLoop
import PyProof.SliceStr2
import PyProof.StrBlockI
import PyProof.Rows.StrWeight2
import PyProof.StrOps2
import PyProof.ConsumeWalk
import PyProof.ZipIter
import KE.KIntText
import PyProof.StrBlockG
import PyProof.StrLawsTight
import PyProof.StrLawsChain
import KE.IntTextLaws
import PyProof.Rows.CatFin
import OpenK.KOwn
import KE.KTryMore
import KE.KIsNot
import PyProof.Rows.TopTwo
import PyProof.NsDelKeeps
import PyProof.RulesAs
import PyProof.Rows.Catch
import PyProof.ExcAttrAll.ValueError
import PyProof.TupleIter
import PyProof.Draws
import KE.KUnpack
import PyProof.FString
import PySem.Challenge.RW_midlanes_k73_whole_one_lane_text
section
set_option Elab.async false
set_option linter.all false
set_option maxRecDepth 100000
/-! THE HAND LAYER, for ints, bools, texts, own classes, LISTS and tuples (index, slices, in, append, pop ..), calls, loops. Paste it whole ahead of your own text; what your proof does not reach may be deleted. -/
namespace L2
open PySem PySem.Spec PyProof.Rows

/-- a key: an int or a str -/
noncomputable abbrev Key := Sum Int Str
noncomputable def keyIs : Key → Value → Bool
  | .inl k, v => Value.isInt k v
  | .inr x, v => Value.isStrOf x v
noncomputable def keyH (w : World) : Key → Int
  | .inl k => hashInt k
  | .inr x => hashStr w x
theorem keyIs_shape : ∀ {k : Key} {v : Value}, keyIs k v = true → (∃ i t, k = Sum.inl i ∧ v = Value.int i t) ∨ (∃ x t, k = Sum.inr x ∧ v = Value.str x t)
  | .inl i, v, h => by
    obtain ⟨t, e⟩ := Value.isInt_shape (k := i) (v := v) h
    exact .inl ⟨i, t, rfl, e⟩
  | .inr x, v, h => by
    obtain ⟨t, e⟩ := Value.isStrOf_shape (x := x) (v := v) h
    exact .inr ⟨x, t, rfl, e⟩
theorem keyIs_int (i : Int) (t : Tok) : keyIs (.inl i) (.int i t) = true := by simp [keyIs, Value.isInt]
theorem keyIs_str (x : Str) (t : Tok) : keyIs (.inr x) (.str x t) = true := by simp [keyIs, Value.isStrOf]
theorem key_ll (a b : Int) : decide ((Sum.inl a : Key) = Sum.inl b) = (a == b) := by
  by_cases e : a = b
  · subst e; simp
  · have h : ¬ (Sum.inl a : Key) = Sum.inl b := fun q => e (Sum.inl.inj q)
    rw [decide_eq_false h]
    exact (beq_eq_false_iff_ne.mpr e).symm
theorem key_rr (a b : Str) : decide ((Sum.inr a : Key) = Sum.inr b) = decide (a = b) := by
  by_cases e : a = b
  · subst e; simp
  · have h : ¬ (Sum.inr a : Key) = Sum.inr b := fun q => e (Sum.inr.inj q)
    rw [decide_eq_false h, decide_eq_false e]
theorem key_lr (a : Int) (b : Str) : decide ((Sum.inl a : Key) = Sum.inr b) = false := decide_eq_false (fun q => nomatch q)
theorem key_rl (a : Str) (b : Int) : decide ((Sum.inr a : Key) = Sum.inl b) = false := decide_eq_false (fun q => nomatch q)

noncomputable def mixKind (prog : Program) (w : World) : PySem.KeyKind prog w Key where
  is := keyIs
  hash := keyH w
  inj := fun v a b ha hb => by
    rcases keyIs_shape ha with ⟨i, t, rfl, rfl⟩ | ⟨x, t, rfl, rfl⟩
    · rcases keyIs_shape hb with ⟨j, u, rfl, e⟩ | ⟨y, u, rfl, e⟩
      · injection e with e1 _; rw [e1]
      · exact nomatch e
    · rcases keyIs_shape hb with ⟨j, u, rfl, e⟩ | ⟨y, u, rfl, e⟩
      · exact nomatch e
      · injection e with e1 _; rw [e1]
  byValue := fun k v h => by
    rcases keyIs_shape h with ⟨i, t, rfl, rfl⟩ | ⟨x, t, rfl, rfl⟩ <;> rfl
  pyHash := fun hv h => by
    rcases keyIs_shape hv with ⟨i, t, rfl, rfl⟩ | ⟨x, t, rfl, rfl⟩
    · exact wpAny_pyHash_int h
    · exact wpAny_pyHash_str h
  eqBool := fun hu hv h => by
    rcases keyIs_shape hu with ⟨i, t, rfl, rfl⟩ | ⟨x, t, rfl, rfl⟩
    · rcases keyIs_shape hv with ⟨j, u, rfl, rfl⟩ | ⟨y, u, rfl, rfl⟩
      · rw [key_ll] at h; exact wpAny_eqBool_int h
      · rw [key_lr] at h; exact SeqAt.EqAt.int_str i t y u _ _ _ _ h
    · rcases keyIs_shape hv with ⟨j, u, rfl, rfl⟩ | ⟨y, u, rfl, rfl⟩
      · rw [key_rl] at h; exact SeqAt.EqAt.str_int x t j u _ _ _ _ h
      · rw [key_rr] at h; exact wpAny_eqBool_str h
  «strs» := fun k x t v h => by
    rcases keyIs_shape h with ⟨i, u, rfl, e⟩ | ⟨y, u, rfl, e⟩
    · exact nomatch e
    · injection e with e1 _
      subst e1
      cases v <;> rfl

theorem mixKind_int (prog : Program) (w : World) (i : Int) (t : Tok) : (mixKind prog w).is (.inl i) (.int i t) = true := keyIs_int i t
theorem mixKind_str (prog : Program) (w : World) (x : Str) (t : Tok) : (mixKind prog w).is (.inr x) (.str x t) = true := keyIs_str x t
end L2

namespace L2
open PySem PySem.Spec PyProof.Rows

/-- a value, without the heap -/
inductive V where
  | non | bl (b : Bool) | int (i : Int) | str (x : Str) | byt (b : Array UInt8) | flt (b : UInt64) | ref (a : Addr) | ty (n : String)
  deriving DecidableEq

noncomputable def RelV : V → Value → Prop
  | .non, u => u = Value.none
  | .bl b, u => u = Value.bool b
  | .int i, u => ∃ t, u = Value.int i t
  | .str x, u => ∃ t, u = Value.str x t
  | .byt b, u => ∃ t, u = Value.bytes b t
  | .flt b, u => ∃ t, u = Value.float b t
  | .ref a, u => u = Value.ref a
  | .ty n, u => u = Value.type n

noncomputable abbrev Vals : List V → List Value → Prop := Paired RelV
theorem Vals.length {xs : List V} {us : List Value} (r : Vals xs us) : xs.length = us.length := Paired.length r
theorem Vals.get : ∀ {xs : List V} {us : List Value} {i : Nat} {x : V}, Vals xs us → xs[i]? = some x → ∃ u, us[i]? = some u ∧ RelV x u
  | _, _, _, _, .nil, e => by simp at e
  | _, _, 0, _, .cons r _, e => by simp at e; subst e; exact ⟨_, rfl, r⟩
  | _, _, i + 1, x, .cons _ t, e => by
    obtain ⟨u, h1, h2⟩ := Vals.get (i := i) (x := x) t (by simpa using e)
    exact ⟨u, by simpa using h1, h2⟩
theorem Vals.set {x : V} {u : Value} (r : RelV x u) : ∀ {xs : List V} {us : List Value} (i : Nat), Vals xs us → Vals (xs.set i x) (us.set i u)
  | _, _, _, .nil => .nil
  | _, _, 0, .cons _ t => .cons r t
  | _, _, i + 1, .cons q t => .cons q (Vals.set r i t)
theorem Vals.append : ∀ {xs ys : List V} {us ws : List Value}, Vals xs us → Vals ys ws → Vals (xs ++ ys) (us ++ ws)
  | _, _, _, _, .nil, s => s
  | _, _, _, _, .cons r t, s => .cons r (Vals.append t s)
theorem Vals.take : ∀ {xs : List V} {us : List Value} (n : Nat), Vals xs us → Vals (xs.take n) (us.take n)
  | _, _, 0, _ => .nil
  | _, _, _ + 1, .nil => .nil
  | _, _, n + 1, .cons r t => .cons r (Vals.take n t)
theorem Vals.drop : ∀ {xs : List V} {us : List Value} (n : Nat), Vals xs us → Vals (xs.drop n) (us.drop n)
  | _, _, 0, r => r
  | _, _, _ + 1, .nil => .nil
  | _, _, n + 1, .cons _ t => Vals.drop n t
noncomputable def RelO : Option V → Option Value → Prop
  | some v, some u => RelV v u
  | none, none => True
  | _, _ => False
noncomputable def KV {κ : Type} : List (κ × V) → List (κ × Value) → Prop := Paired fun (p : κ × V) (q : κ × Value) => p.1 = q.1 ∧ RelV p.2 q.2

/-- a key of a dict (00_mix): an int or a text -/
noncomputable def kV : Key → V
  | .inl i => .int i
  | .inr x => .str x

/-- what stands at a tracked address -/
inductive HO where
  /-- a list -/
  | lst (xs : List V)
  /-- a tuple (never changes) -/
  | tup (xs : List V)
  /-- a dict whose keys are ints and texts; one whose keys are tuples of ints and texts (the empty one is both) -/
  | dK (kvs : List (Key × V)) | dT (kvs : List (List Key × V))
  /-- a set of ints: its members, its size -/
  | set (S : Int → Bool) (n : Nat)
  /-- an instance of the class at C, its dict at dx, its attributes -/
  | ins (C dx : Addr) (fs : List (Str × V))
  /-- the dict of the instance at x -/
  | own (x : Addr)
  /-- the dict of an exception -/
  | xd (fs : List (Str × V))
  /-- a bound method, f of x -/
  | met (f x : Addr)
  /-- a range object lo, lo + 1, .. below hi -/
  | rng (lo hi : Int)
  /-- a thing that is known to the object (the script; a dict while a loop walks it): read, never written while it is so -/
  | frz (o : Obj) (u : HO)
  /-- a code object's table -/
  | tbl (ps : Array Value)
  /-- any other thing, by what is true of its one object (a def of one's own: SetO a S n := HO.ext fun h => ..) -/
  | ext (φ : Heap → Prop)

noncomputable abbrev Hp := Addr → Option HO
noncomputable def upd (H : Hp) (a : Addr) (o : HO) : Hp := fun b => if b = a then some o else H b
theorem upd_same {H : Hp} {a : Addr} {o : HO} : upd H a o a = some o := by unfold upd; rw [if_pos rfl]
theorem upd_ne {H : Hp} {a b : Addr} {o : HO} (h : b ≠ a) : upd H a o b = H b := by unfold upd; rw [if_neg h]
/-- two objects of different content stand apart -/
theorem ne_of {H : Hp} {a b : Addr} {o u : HO} (h : H a = some o) (h' : H b = some u) (d : o ≠ u) : a ≠ b := by
  intro e; subst e; rw [h] at h'; exact d (Option.some.inj h')
theorem ne_of_none {H : Hp} {a b : Addr} {o : HO} (h : H a = some o) (h' : H b = none) : a ≠ b := by
  intro e; subst e; rw [h] at h'; cases h'

section
variable (P : Program) (w : World)
noncomputable def ObjOk (H : Hp) (h : Heap) (a : Addr) : HO → Prop
  | .lst xs => xs.length ≤ sizeLine ∧ ∃ (its : List Value) (n : Nat), Vals xs its ∧ h.get? a = some { cls := .type "list", data := .seq its.toArray n }
  | .tup xs => xs.length ≤ sizeLine ∧ ∃ its : List Value, Vals xs its ∧ IsTup h a its.toArray
  | .dK kvs => kvs.length ≤ sizeLine ∧ (a == sysModules) = false ∧ ∃ vs, KV kvs vs ∧ h.DictOf (mixKind P w) a vs
  | .dT kvs => kvs.length ≤ sizeLine ∧ (a == sysModules) = false ∧ ∃ xs : List (List Key × Addr × Value),
      Paired (fun (p : List Key × V) (q : List Key × Addr × Value) => p.1 = q.1 ∧ H q.2.1 = some (.tup (p.1.map kV)) ∧ RelV p.2 q.2.2) kvs xs ∧
      ∃ o es ep, h.get? a = some o ∧ o.ExactDict ∧ o.data = .dict es ep ∧ es.toList = xs.map (entryOfKey (tupleKind (mixKind P w))) ∧ (xs.map (·.1)).Nodup
  | .set S n => h.SetOf (intKind P w) a S n
  | .ins C dx fs => H dx = some (.own a) ∧ fs.length ≤ 1000 ∧ dx ≠ a ∧ h.get? a = some (PySem.W.instObj C dx) ∧
      ∃ mA, h.Ns1 dx mA ∧ (∀ f, RelO (fs.lookup f) (mA f)) ∧ PySem.Within mA (fs.map (·.1))
  | .own _ => ∃ o, h.get? a = some o
  | .xd fs => ∃ mA, h.Ns1 a mA ∧ ∀ f, RelO (fs.lookup f) (mA f)
  | .rng lo hi => ∃ t u v, h.get? a = some { cls := .type "range", data := .fields #[.int lo t, .int hi u, .int 1 v] }
  | .frz o u => h.get? a = some o ∧ ObjOk H h a u
  | .tbl ps => h.get? a = some { cls := .none, data := .fields ps }
  | .met f x => h.get? a = some (PySem.W.methodObj (.ref f) (.ref x))
  | .ext φ => φ h ∧ (∃ o, h.get? a = some o) ∧ ∀ h1 h2 : Heap, φ h1 → (∀ o, h1.get? a = some o → h2.get? a = some o) → φ h2
/-- the abstract heap is held -/
noncomputable def HOk (H : Hp) (h : Heap) : Prop := ∀ a o, H a = some o → ObjOk P w H h a o
end

section
variable {P : Program} {w : World} {H H' : Hp} {h h' : Heap} {a : Addr} {o : HO}
theorem ObjOk.lt (x : ObjOk P w H h a o) : a < h.objs.size := by
  cases o with
  | lst xs => obtain ⟨_, _, _, _, e⟩ := x; exact Heap.lt_size e
  | tup xs => obtain ⟨_, _, _, p⟩ := x; exact p.lt
  | dK kvs => obtain ⟨_, _, _, _, o, _, _, e, _⟩ := x; exact Heap.lt_size e
  | dT kvs => obtain ⟨_, _, _, _, o, _, _, e, _⟩ := x; exact Heap.lt_size e
  | set S n => obtain ⟨o, _, _, _, e, _⟩ := x; exact Heap.lt_size e
  | ins C dx fs => obtain ⟨_, _, _, e, _⟩ := x; exact Heap.lt_size e
  | own y => obtain ⟨_, e⟩ := x; exact Heap.lt_size e
  | xd fs => obtain ⟨_, ⟨_, _, _, e, _⟩, _⟩ := x; exact Heap.lt_size e
  | rng lo hi => obtain ⟨_, _, _, e⟩ := x; exact Heap.lt_size e
  | frz ob u => obtain ⟨e, _⟩ := x; exact Heap.lt_size e
  | tbl ps => exact Heap.lt_size (show h.get? a = some _ from x)
  | met f y => exact Heap.lt_size (show h.get? a = some _ from x)
  | ext φ => obtain ⟨_, ⟨_, e⟩, _⟩ := x; exact Heap.lt_size e
theorem Paired.mapP {α β : Type} {F G : α → β → Prop} : ∀ {l₁ : List α} {l₂ : List β}, Paired F l₁ l₂ → (∀ a b, F a b → G a b) → Paired G l₁ l₂
  | _, _, .nil, _ => .nil
  | _, _, .cons r t, f => .cons (f _ _ r) (Paired.mapP t f)
/-- what an object's description leans on: its own object, its own dict, the tuples -/
theorem ObjOk.stay (x : ObjOk P w H h a o) (k : ∀ b u, (b = a ∨ H b = some (.own a)) → h.get? b = some u → h'.get? b = some u)
    (ho : ∀ b, H b = some (.own a) → H' b = some (.own a)) (ht : ∀ b xs, H b = some (.tup xs) → H' b = some (.tup xs)) : ObjOk P w H' h' a o := by
  induction o with
  | lst xs => obtain ⟨z, its, n, r, e⟩ := x; exact ⟨z, its, n, r, k _ _ (.inl rfl) e⟩
  | tup xs => obtain ⟨z, its, r, ob, e, c⟩ := x; exact ⟨z, its, r, ob, k _ _ (.inl rfl) e, c⟩
  | dK kvs => obtain ⟨z, y, vs, r, ob, es, ep, e, c⟩ := x; exact ⟨z, y, vs, r, ob, es, ep, k _ _ (.inl rfl) e, c⟩
  | dT kvs =>
    obtain ⟨z, y, xs, r, ob, es, ep, e, c⟩ := x
    exact ⟨z, y, xs, Paired.mapP r fun p q z => ⟨z.1, ht _ _ z.2.1, z.2.2⟩, ob, es, ep, k _ _ (.inl rfl) e, c⟩
  | set S n => obtain ⟨ob, es, ep, t, e, c⟩ := x; exact ⟨ob, es, ep, t, k _ _ (.inl rfl) e, c⟩
  | ins C dx fs =>
    obtain ⟨d, z, ne, e, mA, ⟨od, es, ep, e2, c⟩, r⟩ := x
    exact ⟨ho _ d, z, ne, k _ _ (.inl rfl) e, mA, ⟨od, es, ep, k _ _ (.inr d) e2, c⟩, r⟩
  | own y => obtain ⟨ob, e⟩ := x; exact ⟨ob, k _ _ (.inl rfl) e⟩
  | xd fs => obtain ⟨mA, ⟨od, es, ep, e, c⟩, r⟩ := x; exact ⟨mA, ⟨od, es, ep, k _ _ (.inl rfl) e, c⟩, r⟩
  | rng lo hi => obtain ⟨t, u, v, e⟩ := x; exact ⟨t, u, v, k _ _ (.inl rfl) e⟩
  | frz ob u ih => obtain ⟨e, q⟩ := x; exact ⟨k _ _ (.inl rfl) e, ih q⟩
  | tbl ps =>
    have e : h.get? a = some { cls := .none, data := .fields ps } := x
    show h'.get? a = some { cls := .none, data := .fields ps }
    exact k a _ (.inl rfl) e
  | met f y =>
    have e : h.get? a = some (PySem.W.methodObj (.ref f) (.ref y)) := x
    show h'.get? a = some (PySem.W.methodObj (.ref f) (.ref y))
    exact k a _ (.inl rfl) e
  | ext φ => obtain ⟨p, ⟨o, e⟩, st⟩ := x; exact ⟨st _ _ p fun o q => k _ _ (.inl rfl) q, ⟨o, k _ _ (.inl rfl) e⟩, st⟩
theorem HOk.lt (x : HOk P w H h) (e : H a = some o) : a < h.objs.size := (x a o e).lt
theorem HOk.fresh (x : HOk P w H h) (e : h.objs.size ≤ a) : H a = none := by
  cases q : H a with
  | none => rfl
  | some u => exact absurd (Nat.lt_of_lt_of_le (x.lt q) e) (Nat.lt_irrefl _)
/-- every object of the heap is kept -/
theorem HOk.kept (x : HOk P w H h) (k : ∀ b u, h.get? b = some u → h'.get? b = some u) : HOk P w H h' := fun a o e =>
  (x a o e).stay (fun b u _ q => k b u q) (fun _ q => q) fun _ _ q => q
/-- a new object is laid and tracked -/
theorem HOk.laid (x : HOk P w H h) (k : ∀ b u, h.get? b = some u → h'.get? b = some u) (hp : h.objs.size ≤ a) (new : ObjOk P w (upd H a o) h' a o) : HOk P w (upd H a o) h' := fun b u e => by
  have hn := x.fresh hp
  by_cases hb : b = a
  · subst hb; rw [upd_same] at e; cases e; exact new
  · rw [upd_ne hb] at e
    exact (x b u e).stay (fun c v _ q => k c v q) (fun c q => by rw [upd_ne (ne_of_none q hn)]; exact q) fun c xs q => by rw [upd_ne (ne_of_none q hn)]; exact q
end

/-- what may be read as u: it is u, or a known u -/
noncomputable def Rd (H : Hp) (a : Addr) (u : HO) : Prop := H a = some u ∨ ∃ o, H a = some (.frz o u)
theorem Rd.ok {P : Program} {w : World} {H : Hp} {h : Heap} {a : Addr} {u : HO} (r : Rd H a u) (x : HOk P w H h) : ObjOk P w H h a u := by
  rcases r with r | ⟨o, r⟩
  · exact x a u r
  · obtain ⟨_, q⟩ := x a _ r
    exact q
/-- what may be written -/
noncomputable def Mut : Option HO → Prop
  | some (.lst _) => True
  | some (.dK _) => True
  | some (.dT _) => True
  | some (.set _ _) => True
  | some (.ins _ _ _) => True
  | some (.ext _) => True
  | _ => False
section
variable {P : Program} {w : World} {H : Hp} {h h' : Heap} {x e : Addr} {o' : HO}
/-- the object at e is changed: x itself, or the dict of the instance x -/
theorem HOk.write (ok : HOk P w H h) (mu : Mut (H x)) (he : e = x ∨ H e = some (.own x)) (k : ∀ b u, b ≠ e → h.get? b = some u → h'.get? b = some u) (heo : ∃ u, h'.get? e = some u)
    (new : ObjOk P w (upd H x o') h' x o') : HOk P w (upd H x o') h' := fun b u q => by
  have nown : ∀ c y, H c = some (.own y) → c ≠ x := fun c y r z => by subst z; rw [r] at mu; exact mu
  have ntup : ∀ c xs, H c = some (.tup xs) → c ≠ x := fun c xs r z => by subst z; rw [r] at mu; exact mu
  by_cases hb : b = x
  · subst hb; rw [upd_same] at q; cases q; exact new
  · rw [upd_ne hb] at q
    by_cases hbe : b = e
    · have q' : H b = some (.own x) := by
        rcases he with z | z
        · exact absurd (hbe.trans z) hb
        · rw [hbe]; exact z
      rw [q] at q'; cases q'
      obtain ⟨v, hv⟩ := heo
      exact ⟨v, by rw [hbe]; exact hv⟩
    · refine (ok b u q).stay (fun c v hc r => k c v ?_ r) (fun c r => by rw [upd_ne (nown c b r)]; exact r) fun c xs r => by rw [upd_ne (ntup c xs r)]; exact r
      rcases hc with rfl | hc
      · exact hbe
      · rintro rfl
        rcases he with z | z
        · exact nown c b hc z
        · rw [hc] at z; cases z; exact hb rfl
end

/-! ### kept unless tracked; of the frames at fs (the callers') the slots may change (an exception that passes writes there); of the records at ex (iterators) nothing is said -/
structure Un (fs ex : List Addr) (H H' : Hp) (h h' : Heap) : Prop where
  keep : ∀ b o, h.get? b = some o → H b = none → b ∉ fs → b ∉ ex → h'.get? b = some o
  slot : ∀ b o, h.get? b = some o → H b = none → b ∈ fs → b ∉ ex → ∃ sl, h'.get? b = some { o with slots := sl }
  free : ∀ b o, h.get? b = some o → H b = none → b ∉ ex → H' b = none
  there : ∀ b o, h.get? b = some o → b ∉ ex → ∃ o', h'.get? b = some o'
  tups : ∀ b xs, H b = some (.tup xs) → H' b = some (.tup xs)
  frzs : ∀ b o u, H b = some (.frz o u) → H' b = some (.frz o u)
  tbls : ∀ b ps, H b = some (.tbl ps) → ∃ more, H' b = some (.tbl (ps ++ more))
section
variable {fs fs' ex ex' : List Addr} {H H1 H2 : Hp} {h h1 h2 h' : Heap} {a x e : Addr} {o : HO}
theorem Un.any (u : Un fs ex H H1 h h1) {b : Addr} {ob : Obj} (q : h.get? b = some ob) (n : H b = none) (hx : b ∉ ex) : ∃ sl, h1.get? b = some { ob with slots := sl } := by
  by_cases hb : b ∈ fs
  · exact u.slot b ob q n hb hx
  · exact ⟨ob.slots, u.keep b ob q n hb hx⟩
theorem Un.kept (k : ∀ b u, h.get? b = some u → h'.get? b = some u) : Un fs ex H H h h' :=
  ⟨fun b ob q _ _ _ => k b ob q, fun b ob q _ _ _ => ⟨ob.slots, k b ob q⟩, fun _ _ _ n _ => n, fun b ob q _ => ⟨ob, k b ob q⟩, fun _ _ q => q, fun _ _ _ q => q, fun _ ps q => ⟨#[], by rw [q]; simp⟩⟩
theorem Un.refl : Un fs ex H H h h := Un.kept fun _ _ q => q
theorem Un.laid (k : ∀ b u, h.get? b = some u → h'.get? b = some u) (hp : h.objs.size ≤ a) (hn : H a = none) : Un fs ex H (upd H a o) h h' where
  keep := fun b u q _ _ _ => k b u q
  slot := fun b u q _ _ _ => ⟨u.slots, k b u q⟩
  free := fun b u q n _ => by rw [upd_ne (Nat.ne_of_lt (Nat.lt_of_lt_of_le (Heap.lt_size q) hp))]; exact n
  there := fun b u q _ => ⟨u, k b u q⟩
  tups := fun b xs q => by rw [upd_ne (ne_of_none q hn)]; exact q
  frzs := fun b u xs q => by rw [upd_ne (ne_of_none q hn)]; exact q
  tbls := fun b ps q => ⟨#[], by rw [upd_ne (ne_of_none q hn), q]; simp⟩
theorem Un.write (mu : Mut (H x)) (he : e = x ∨ H e = some (.own x)) (k : ∀ b u, b ≠ e → h.get? b = some u → h'.get? b = some u) (heo : ∃ u, h'.get? e = some u) : Un fs ex H (upd H x o) h h' := by
  have hx : ∀ b, H b = none → b ≠ x := fun b n z => by subst z; rw [n] at mu; exact mu
  have hb : ∀ b, H b = none → b ≠ e := fun b n z => by
    subst z
    rcases he with r | r
    · exact hx b n r
    · rw [n] at r; cases r
  have hm : ∀ b u, H b = some u → ¬ Mut (some u) → b ≠ x := fun b u q nm z => by subst z; rw [q] at mu; exact nm mu
  refine ⟨fun b u q n _ _ => k b u (hb b n) q, fun b u q n _ _ => ⟨u.slots, k b u (hb b n) q⟩, fun b u q n _ => by rw [upd_ne (hx b n)]; exact n, fun b u q _ => ?_,
    fun b xs q => by rw [upd_ne (hm b _ q fun z => z)]; exact q, fun b u xs q => by rw [upd_ne (hm b _ q fun z => z)]; exact q, fun b ps q => ⟨#[], by rw [upd_ne (hm b _ q fun z => z), q]; simp⟩⟩
  by_cases hbe : b = e
  · subst hbe; exact heo
  · exact ⟨u, k b u hbe q⟩
end

/-! ### the heap without what is tracked -/
noncomputable def trk (h : Heap) (H : Hp) : List Addr := (List.range h.objs.size).filter fun a => (H a).isSome
noncomputable def hidT (h : Heap) (H : Hp) : Heap := PySem.W.hideAll h (trk h H)
theorem hidT_size (h : Heap) (H : Hp) : (hidT h H).objs.size = h.objs.size := PySem.W.hideAll_size _ _
theorem hidT_get {h : Heap} {H : Hp} {b : Addr} {o : Obj} (e : h.get? b = some o) (n : H b = none) : (hidT h H).get? b = some o :=
  PySem.W.hideAll_get _ e fun hm => by
    have q : (H b).isSome = true := (List.mem_filter.mp hm).2
    rw [n] at q; simp at q
theorem of_hidT {h : Heap} {H : Hp} {b : Addr} {o : Obj} (e : (hidT h H).get? b = some o) : h.get? b = some o ∧ H b = none := by
  have e' : h.get? b = some o := PySem.W.of_hideAll (trk h H) e
  refine ⟨e', ?_⟩
  cases q : H b with
  | none => rfl
  | some x =>
    have hm : b ∈ trk h H := List.mem_filter.mpr ⟨List.mem_range.mpr (Heap.lt_size e'), by simp [q]⟩
    have z : (hidT h H).get? b = none := PySem.W.hideAll_none (trk h H) hm
    rw [z] at e; cases e

/-! ### OpenK's ledger, filled with every new object but one -/
noncomputable def allNews (g h : Heap) (L : Addr) : List (Addr × Obj) := (List.range h.objs.size).filterMap fun a => if a = L ∨ (g.get? a).isSome = true then none else (h.get? a).map fun o => (a, o)
noncomputable def rest (g h : Heap) (L d : Addr) : List (Addr × Obj) := (allNews g h L).filter fun p => decide (p.1 ≠ d)
end L2

namespace L2
open PySem PySem.Spec PyProof.Rows

/-- the module's facts, over the base: the heap at the law's entry without what is tracked there -/
structure Mod (K : PySem.W.Frag) (mg : Str → Option Value) (base : Heap) : Prop where
  kin : K.In base
  glob : base.Ns mainGlobals mg
  blt : ∃ mb, base.Ns builtinsNs mb ∧ ∀ x : Str, x ≠ "__name__" → mb x = bootBuiltins x
  nolimit : base.NoLimit

/-- the context: a def's body (or a comprehension's block) running. base: fixed through the whole law; s₀, H₀: the entry; outer: the frames whose slots others may change (a def's callers); stack: all frames that run;
   ex: iterators that were made ahead of the entry and are walked here (a comprehension's); fn: the names whose cells were made at the entry (a def: all; a comprehension's block: its own); calm: not within an except suite; pn: pins that every state bears; xe: what is wanted of an exception that leaves the code -/
structure Cx where
  prog : Program
  w : World
  K : PySem.W.Frag
  mg : Str → Option Value
  base : Heap
  A : Around
  N : List Str
  s₀ : Shared
  H₀ : Hp
  env : Env
  outer : List Env
  stack : List Env
  ex : List Addr
  fn : Str → Bool
  calm : Bool
  pn : List (Addr × Obj)
  xe : Value → Shared → Prop
/-- the callers' frames -/
noncomputable def frs (l : List Env) : List Addr := l.filterMap (·.frame)
noncomputable abbrev Cx.fs (X : Cx) : List Addr := frs X.outer

noncomputable def Vis (sc : Scope) (x : Str) : Prop := sc.names.lookup x = some .local ∨ sc.names.lookup x = some .cell ∨ sc.names.lookup x = some .free
noncomputable def Loc (sc : Scope) (x : Str) : Prop := sc.names.lookup x = some .local ∨ sc.names.lookup x = some .cell
noncomputable def Look (env : Env) (h : Heap) (m : Str → Option Value) (x : Str) (u : Value) : Prop :=
  (env.kindOf x = some .local ∧ m x = some u) ∨ ((env.kindOf x = some .cell ∨ env.kindOf x = some .free) ∧ ∃ c, env.cells.lookup x = some c ∧ h.IsCell c (some u))

structure Cx.Ok (X : Cx) : Prop where
  mod : Mod X.K X.mg X.base
  kind : X.env.scope.kind = .function
  glob : X.env.globals = mainGlobals
  blt : X.env.builtins = builtinsNs
  above : X.s₀.heap.objs.size ≤ X.env.locals
  inj : ∀ x y c, X.env.cells.lookup x = some c → X.env.cells.lookup y = some c → x = y
  has : ∀ x, (X.env.kindOf x = some .cell ∨ X.env.kindOf x = some .free) → ∃ c, X.env.cells.lookup x = some c
  cab : ∀ x c, X.fn x = true → X.env.cells.lookup x = some c → X.s₀.heap.objs.size ≤ c
  hd : X.calm = true → X.A.handled = none
  frames : X.A.frames = some X.stack
  stk : X.stack = X.outer ∨ (X.stack = X.env :: X.outer ∧ X.env.frame = some X.env.locals)
  exf : ∀ b ∈ X.ex, b ≠ X.env.locals ∧ ∀ x c, X.env.cells.lookup x = some c → c ≠ b
  bs : ∀ b o, X.base.get? b = some o → X.s₀.heap.get? b = some o ∧ X.H₀ b = none
  bsz : X.base.objs.size ≤ X.s₀.heap.objs.size
  noex : ∀ b o, X.base.get? b = some o → b ∉ X.ex
  exfs : ∀ b ∈ X.ex, b ∉ X.fs
  funs : X.s₀.heap.FunFrames X.base X.outer
  frf : ∀ b ∈ X.fs, X.H₀ b = none

structure Inv (X : Cx) (pins : List (Addr × Obj)) (σ : List (Option V)) (H : Hp) (s : Shared) : Prop where
  ok : X.Ok
  os : s.os = X.s₀.os
  bare : AllBare s.gens
  base : Un X.fs X.ex X.H₀ H X.s₀.heap s.heap
  loc : ∃ m, s.heap.Ns X.env.locals m ∧ ∀ (i : Nat) (x : Str) (v : V), X.N[i]? = some x → σ[i]? = some (some v) → Vis X.env.scope x → ∃ u, RelV v u ∧ Look X.env s.heap m x u
  cell : ∀ x c, X.env.cells.lookup x = some c → ∃ v, s.heap.IsCell c v
  free : H X.env.locals = none
  freeC : ∀ x c, X.env.cells.lookup x = some c → H c = none
  pin : ∀ p ∈ X.pn ++ pins, s.heap.get? p.1 = some p.2 ∧ H p.1 = none ∧ p.1 ≠ X.env.locals ∧ p.1 ∉ X.fs ∧ ∀ v, p.2.data ≠ .cell v
  hok : HOk X.prog X.w H s.heap
  len : σ.length = X.N.length

section
variable {X : Cx} {pins : List (Addr × Obj)} {σ : List (Option V)} {H H' : Hp} {s : Shared} {h' : Heap}

theorem Cx.Ok.nofr (ok : X.Ok) {b : Addr} {o : Obj} (e : X.base.get? b = some o) : b ∉ X.fs := fun hb => by
  have := (ok.funs.mem hb).1
  rw [e] at this; cases this
theorem Inv.bs (I : Inv X pins σ H s) : ∀ b o, X.base.get? b = some o → s.heap.get? b = some o ∧ H b = none := fun b o e =>
  ⟨I.base.keep b o (I.ok.bs b o e).1 (I.ok.bs b o e).2 (I.ok.nofr e) (I.ok.noex b o e), I.base.free b o (I.ok.bs b o e).1 (I.ok.bs b o e).2 (I.ok.noex b o e)⟩
theorem Inv.bk (I : Inv X pins σ H s) : ∀ b o, X.base.get? b = some o → s.heap.get? b = some o := fun b o e => (I.bs b o e).1
theorem Inv.mod (I : Inv X pins σ H s) : Mod X.K X.mg X.base := I.ok.mod
theorem Inv.kIn (I : Inv X pins σ H s) : X.K.In s.heap := I.ok.mod.kin.keeps I.bk
theorem Inv.lt (I : Inv X pins σ H s) : X.env.locals < s.heap.objs.size := let ⟨_, hn, _⟩ := I.loc; hn.lt
theorem Inv.sz (I : Inv X pins σ H s) : X.s₀.heap.objs.size ≤ s.heap.objs.size := Nat.le_trans I.ok.above (Nat.le_of_lt I.lt)
theorem Inv.nofs (I : Inv X pins σ H s) {a : Addr} (h : s.heap.objs.size ≤ a) : a ∉ X.fs := fun hb => by
  obtain ⟨_, o, ho, _⟩ := I.ok.funs.mem hb
  exact absurd (Nat.lt_of_lt_of_le (Heap.lt_size ho) (Nat.le_trans I.sz h)) (Nat.lt_irrefl _)
theorem Inv.cne (I : Inv X pins σ H s) : ∀ x c, X.env.cells.lookup x = some c → c ≠ X.env.locals := fun x c e z => by
  obtain ⟨v, o, ho, hd⟩ := I.cell x c e
  obtain ⟨m, ⟨o', es, ep, ho', hd', _⟩, _⟩ := I.loc
  rw [z, ho'] at ho; cases ho; rw [hd'] at hd; cases hd
theorem Inv.funs (I : Inv X pins σ H s) : s.heap.FunFrames X.base X.outer := by
  have all : ∀ (l : List Env), (∀ b ∈ frs l, b ∈ X.fs) → X.s₀.heap.FunFrames X.base l → s.heap.FunFrames X.base l := by
    intro l
    induction l with
    | nil => intro _ _; trivial
    | cons env r ih =>
      intro hs hl
      obtain ⟨hk, ⟨L, o, hf, hn, ho, hd⟩, hr⟩ := hl
      have hL : L ∈ X.fs := hs L (by unfold frs; rw [List.filterMap_cons, hf]; exact List.mem_cons_self)
      obtain ⟨sl, e⟩ := I.base.slot L o ho (I.ok.frf L hL) hL fun z => I.ok.exfs L z hL
      exact ⟨hk, ⟨L, _, hf, hn, e, hd⟩, ih (fun b hb => hs b (by unfold frs; rw [List.filterMap_cons, hf]; exact List.mem_cons_of_mem _ hb)) hr⟩
  exact all X.outer (fun _ hb => hb) I.ok.funs

/-- the frames that run, for a call -/
theorem Inv.stack (I : Inv X pins σ H s) : s.heap.FunFrames X.base X.stack := by
  rcases I.ok.stk with e | ⟨e, hf⟩
  · rw [e]; exact I.funs
  · rw [e]
    obtain ⟨m, hn, _⟩ := I.loc
    refine .cons (by rw [I.ok.kind]; decide) hf hn ?_ I.funs
    exact Heap.get?_none_of_le (Nat.le_trans I.ok.bsz I.ok.above)
theorem Inv.stkSub (I : Inv X pins σ H s) : ∀ b ∈ frs X.stack, b ∈ X.env.locals :: X.fs := fun b hb => by
  rcases I.ok.stk with e | ⟨e, hf⟩
  · rw [e] at hb; exact List.mem_cons_of_mem _ hb
  · rw [e] at hb
    unfold frs at hb
    rw [List.filterMap_cons, hf] at hb
    exact hb
theorem Inv.stkFree (I : Inv X pins σ H s) : ∀ b ∈ frs X.stack, H b = none := fun b hb => by
  rcases List.mem_cons.mp (I.stkSub b hb) with e | hb
  · rw [e]; exact I.free
  · obtain ⟨_, o, ho, _⟩ := I.ok.funs.mem hb
    exact I.base.free b o ho (I.ok.frf b hb) fun z => I.ok.exfs b z hb

/-- THE STEP: the untracked objects but the frame and the records at ch are kept (the callers' frames up to slots), the frame's map is kept, the new abstract heap is held -/
theorem Inv.step {g' : Array GenState} {t' : Nat} {d' : Drawn} {ch : List Addr} (I : Inv X pins σ H s)
    (hch : ∀ b ∈ ch, (b ∈ X.ex ∨ X.s₀.heap.objs.size ≤ b) ∧ b ≠ X.env.locals ∧ (∀ x c, X.env.cells.lookup x = some c → c ≠ b) ∧ ∀ p ∈ X.pn ++ pins, p.1 ≠ b)
    (keep : ∀ b o, b ≠ X.env.locals → b ∉ X.fs → b ∉ ch → s.heap.get? b = some o → H b = none → h'.get? b = some o)
    (slot : ∀ b o, b ≠ X.env.locals → b ∈ X.fs → b ∉ ch → s.heap.get? b = some o → H b = none → ∃ sl, h'.get? b = some { o with slots := sl }) (free : ∀ b o, b ∉ ch → s.heap.get? b = some o → H b = none → H' b = none)
    (there : ∀ b o, b ∉ ch → s.heap.get? b = some o → ∃ o', h'.get? b = some o')
    (tups : ∀ b xs, H b = some (.tup xs) → H' b = some (.tup xs)) (frzs : ∀ b o u, H b = some (.frz o u) → H' b = some (.frz o u)) (tbls : ∀ b ps, H b = some (.tbl ps) → ∃ more, H' b = some (.tbl (ps ++ more)))
    (ns : ∀ m, s.heap.Ns X.env.locals m → h'.Ns X.env.locals m) (hok : HOk X.prog X.w H' h') (hg : AllBare g') :
    Inv X pins σ H' { s with heap := h', gens := g', drawn := d', toks := t' } := by
  have neL : ∀ b o, X.s₀.heap.get? b = some o → b ≠ X.env.locals := fun b o e => Nat.ne_of_lt (Nat.lt_of_lt_of_le (Heap.lt_size e) I.ok.above)
  have neC : ∀ b o, X.s₀.heap.get? b = some o → b ∉ X.ex → b ∉ ch := fun b o e hx hb => by
    rcases (hch b hb).1 with z | z
    · exact hx z
    · exact absurd (Nat.lt_of_lt_of_le (Heap.lt_size e) z) (Nat.lt_irrefl _)
  have cellK : ∀ x c, X.env.cells.lookup x = some c → ∀ v, s.heap.IsCell c v → h'.IsCell c v := fun x c e v ⟨o, ho, hd⟩ => by
    have nch : c ∉ ch := fun z => (hch c z).2.2.1 x c e rfl
    by_cases hc : c ∈ X.fs
    · obtain ⟨sl, q⟩ := slot c o (I.cne x c e) hc nch ho (I.freeC x c e)
      exact ⟨_, q, hd⟩
    · exact ⟨o, keep c o (I.cne x c e) hc nch ho (I.freeC x c e), hd⟩
  refine ⟨I.ok, I.os, hg, ⟨fun b o e n hb hx => ?_, fun b o e n hb hx => ?_, fun b o e n hx => ?_, fun b o e hx => ?_, fun b xs e => tups b xs (I.base.tups b xs e), fun b o xs e => frzs b o xs (I.base.frzs b o xs e), fun b ps e => ?_⟩, ?_, fun x c e => ?_, ?_, fun x c e => ?_, fun p hp => ?_, hok, I.len⟩
  · exact keep b o (neL b o e) hb (neC b o e hx) (I.base.keep b o e n hb hx) (I.base.free b o e n hx)
  · obtain ⟨sl, e1⟩ := I.base.slot b o e n hb hx
    obtain ⟨sl', e2⟩ := slot b _ (neL b o e) hb (neC b o e hx) e1 (I.base.free b o e n hx)
    exact ⟨sl', e2⟩
  · obtain ⟨o', e1⟩ := I.base.there b o e hx
    exact free b o' (neC b o e hx) e1 (I.base.free b o e n hx)
  · obtain ⟨o', e1⟩ := I.base.there b o e hx
    exact there b o' (neC b o e hx) e1
  · obtain ⟨m1, e1⟩ := I.base.tbls b ps e
    obtain ⟨m2, e2⟩ := tbls b _ e1
    exact ⟨m1 ++ m2, by rw [e2, Array.append_assoc]⟩
  · obtain ⟨m, hn, hl⟩ := I.loc
    refine ⟨m, ns m hn, fun i x v e1 e2 e3 => ?_⟩
    obtain ⟨u, r, l⟩ := hl i x v e1 e2 e3
    refine ⟨u, r, ?_⟩
    rcases l with l | ⟨k, c, e, z⟩
    · exact .inl l
    · exact .inr ⟨k, c, e, cellK x c e _ z⟩
  · obtain ⟨v, z⟩ := I.cell x c e
    exact ⟨v, cellK x c e v z⟩
  · obtain ⟨m, ⟨o, _, _, ho, _⟩, _⟩ := I.loc
    exact free _ o (fun z => (hch _ z).2.1 rfl) ho I.free
  · obtain ⟨v, o, ho, hd⟩ := I.cell x c e
    exact free c o (fun z => (hch c z).2.2.1 x c e rfl) ho (I.freeC x c e)
  · obtain ⟨e, n, ne, nf, d⟩ := I.pin p hp
    have nch : p.1 ∉ ch := fun z => (hch p.1 z).2.2.2 p hp rfl
    exact ⟨keep p.1 p.2 ne nf nch e n, free p.1 p.2 nch e n, ne, nf, d⟩
/-- .. where the frame's own object is kept too -/
theorem Inv.un {t' : Nat} (I : Inv X pins σ H s) (u : Un X.fs [] H H' s.heap h') (hok : HOk X.prog X.w H' h') : Inv X pins σ H' { s with heap := h', toks := t' } := by
  obtain ⟨m, ⟨o, es, ep, ho, r⟩, _⟩ := id I.loc
  obtain ⟨sl, hL⟩ := u.any ho I.free (by simp)
  exact I.step (g' := s.gens) (d' := s.drawn) (ch := []) (fun _ z => nomatch z) (fun b o _ hb _ e n => u.keep b o e n hb (by simp)) (fun b o _ hb _ e n => u.slot b o e n hb (by simp)) (fun b o _ e n => u.free b o e n (by simp)) (fun b o _ e => u.there b o e (by simp)) u.tups u.frzs u.tbls (fun m' hm => by
    obtain ⟨o', es', ep', ho', r'⟩ := hm
    rw [ho] at ho'; cases ho'
    exact ⟨_, es', ep', hL, r'⟩) hok I.bare
/-- behind a call (or a comprehension's block): the slots of this frame may have changed too, the records at ch may have turned -/
theorem Inv.call {g' : Array GenState} {t' : Nat} {d' : Drawn} {ch : List Addr} (I : Inv X pins σ H s) (u : Un (frs X.stack) ch H H' s.heap h') (hok : HOk X.prog X.w H' h') (hg : AllBare g')
    (hch : ∀ b ∈ ch, (b ∈ X.ex ∨ X.s₀.heap.objs.size ≤ b) ∧ b ≠ X.env.locals ∧ (∀ x c, X.env.cells.lookup x = some c → c ≠ b) ∧ ∀ p ∈ X.pn ++ pins, p.1 ≠ b) :
    Inv X pins σ H' { s with heap := h', gens := g', drawn := d', toks := t' } := by
  obtain ⟨m, ⟨o, es, ep, ho, r⟩, _⟩ := id I.loc
  obtain ⟨sl, hL⟩ := u.any ho I.free fun z => (hch _ z).2.1 rfl
  exact I.step (ch := ch) hch (fun b o hL hb hc e n => u.keep b o e n (fun z => (List.mem_cons.mp (I.stkSub b z)).elim hL hb) hc) (fun b o _ _ hc e n => u.any e n hc) (fun b o hc e n => u.free b o e n hc) (fun b o hc e => u.there b o e hc) u.tups u.frzs u.tbls (fun m' hm => by
    obtain ⟨o', es', ep', ho', r'⟩ := hm
    rw [ho] at ho'; cases ho'
    exact ⟨_, es', ep', hL, r'⟩) hok hg
/-- an untracked record of ours (an iterator) has turned -/
theorem Inv.turned {t' : Nat} {it : Addr} (I : Inv X pins σ H s) (k : ∀ b o, b ≠ it → s.heap.get? b = some o → h'.get? b = some o) (hn : H it = none) (hL : it ≠ X.env.locals)
    (h1 : it ∈ X.ex ∨ X.s₀.heap.objs.size ≤ it) (h2 : ∀ x c, X.env.cells.lookup x = some c → c ≠ it) (h3 : ∀ p ∈ X.pn ++ pins, p.1 ≠ it) : Inv X pins σ H { s with heap := h', toks := t' } := by
  have nit : ∀ b u, H b = some u → b ≠ it := fun b u e z => by rw [z, hn] at e; cases e
  refine I.step (g' := s.gens) (d' := s.drawn) (ch := [it]) (fun b hb => ?_) (fun b o _ _ hc e _ => k b o (fun z => hc (by simp [z])) e) (fun b o _ _ hc e _ => ⟨o.slots, k b o (fun z => hc (by simp [z])) e⟩) (fun _ _ _ _ n => n)
    (fun b o hc e => ⟨o, k b o (fun z => hc (by simp [z])) e⟩) (fun _ _ e => e) (fun _ _ _ e => e) (fun b ps e => ⟨#[], by rw [e]; simp⟩) (fun m hm => ?_) (fun b u e => ?_) I.bare
  · have e : b = it := by simpa using hb
    subst e
    exact ⟨h1, hL, h2, h3⟩
  · obtain ⟨o, es, ep, ho, r⟩ := hm
    exact ⟨o, es, ep, k _ o (Ne.symm hL) ho, r⟩
  · refine (I.hok b u e).stay (fun c v hc q => k c v ?_ q) (fun _ q => q) fun _ _ q => q
    rcases hc with z | z
    · rw [z]; exact nit b u e
    · exact nit c _ z
theorem Inv.tok (I : Inv X pins σ H s) (t : Nat) : Inv X pins σ H { s with toks := t } := I.un (h' := s.heap) (t' := t) Un.refl I.hok
/-- all objects kept -/
theorem Inv.kept {t' : Nat} (I : Inv X pins σ H s) (k : ∀ b u, s.heap.get? b = some u → h'.get? b = some u) : Inv X pins σ H { s with heap := h', toks := t' } := I.un (Un.kept k) (I.hok.kept k)
/-- a new object laid and tracked -/
theorem Inv.laid {a : Addr} {o : HO} {t' : Nat} (I : Inv X pins σ H s) (k : ∀ b u, s.heap.get? b = some u → h'.get? b = some u) (hp : s.heap.objs.size ≤ a) (new : ObjOk X.prog X.w (upd H a o) h' a o) :
    Inv X pins σ (upd H a o) { s with heap := h', toks := t' } := I.un (Un.laid k hp (I.hok.fresh hp)) (I.hok.laid k hp new)
/-- an object written -/
theorem Inv.write {x e : Addr} {o : HO} {t' : Nat} (I : Inv X pins σ H s) (mu : Mut (H x)) (he : e = x ∨ H e = some (.own x)) (k : ∀ b u, b ≠ e → s.heap.get? b = some u → h'.get? b = some u) (heo : ∃ u, h'.get? e = some u)
    (new : ObjOk X.prog X.w (upd H x o) h' x o) : Inv X pins σ (upd H x o) { s with heap := h', toks := t' } := I.un (Un.write mu he k heo) (I.hok.write mu he k heo new)
theorem Inv.pins_of {pins' : List (Addr × Obj)} (I : Inv X pins σ H s) (h : ∀ p ∈ pins', s.heap.get? p.1 = some p.2 ∧ H p.1 = none ∧ p.1 ≠ X.env.locals ∧ p.1 ∉ X.fs ∧ ∀ v, p.2.data ≠ .cell v) : Inv X pins' σ H s :=
  ⟨I.ok, I.os, I.bare, I.base, I.loc, I.cell, I.free, I.freeC, fun p hp => (List.mem_append.mp hp).elim (fun z => I.pin p (List.mem_append_left _ z)) (h p), I.hok, I.len⟩

theorem nodup_ix {N : List Str} (hN : N.Nodup) {i j : Nat} {x : Str} (a : N[i]? = some x) (b : N[j]? = some x) : i = j := by
  obtain ⟨h1, e1⟩ := List.getElem?_eq_some_iff.mp a
  obtain ⟨h2, e2⟩ := List.getElem?_eq_some_iff.mp b
  exact (List.getElem_inj hN).mp (e1.trans e2.symm)

/-- a name is stored; what changed -/
theorem store_ok2 {M : Model} {A : Around} {E : Value → Shared → Prop} {i : Nat} {x : Str} {v : V} {u : Value} {Q : Unit → Shared → Prop} (I : Inv X pins σ H s) (hN : X.N.Nodup) (hi : X.N[i]? = some x) (hx : Loc X.env.scope x) (r : RelV v u)
    (h : ∀ s', Inv X pins (σ.set i (some v)) H s' → (∃ a, Heap.SameBut a s.heap s'.heap ∧ (a = X.env.locals ∨ X.env.cells.lookup x = some a)) → Q () s') (hf : X.fn x = true ∨ X.env.scope.names.lookup x = some .local := by first | exact .inl rfl | exact .inr rfl | assumption) : wpAny M A (storeName X.env x u) Q E s := by
  obtain ⟨m, hn, hl⟩ := id I.loc
  have hcls : (X.env.scope.kind == .class || (X.env.scope.kind == .module && X.env.locals != X.env.globals)) = false := by rw [I.ok.kind]; rfl
  have hiσ : i < σ.length := by rw [I.len]; exact (List.getElem?_eq_some_iff.mp hi).1
  have cne := I.cne
  have tracked : ∀ {a : Addr} {h' : Heap}, (∃ o, s.heap.get? a = some o ∧ H a = none) → Heap.SameBut a s.heap h' → HOk X.prog X.w H h' := fun {a h'} ha hs b ob e => by
    obtain ⟨_, _, hfree⟩ := ha
    refine (I.hok b ob e).stay (fun c w' hc q => (hs.2 c ?_).trans q) (fun _ q => q) fun _ _ q => q
    rintro rfl
    rcases hc with rfl | hc
    · rw [hfree] at e; cases e
    · rw [hfree] at hc; cases hc
  rcases hx with hk | hk
  · refine wpAny_storeName_local hk hn (fun h' hn' hs => ?_) hcls
    obtain ⟨oL, _, _, hoL, _⟩ := id hn
    refine h _ ⟨I.ok, I.os, I.bare, ⟨fun b o e n hb hx => ?_, fun b o e n hb hx => ?_, I.base.free, fun b o e hx => ?_, I.base.tups, I.base.frzs, I.base.tbls⟩, ⟨_, hn', fun j y v' e1 e2 e3 => ?_⟩, fun y c e => ?_, I.free, I.freeC, fun p hp => ?_, tracked ⟨oL, hoL, I.free⟩ hs, by simpa using I.len⟩ ⟨_, hs, .inl rfl⟩
    · exact (hs.2 b (Nat.ne_of_lt (Nat.lt_of_lt_of_le (Heap.lt_size e) I.ok.above))).trans (I.base.keep b o e n hb hx)
    · obtain ⟨sl, e1⟩ := I.base.slot b o e n hb hx
      exact ⟨sl, (hs.2 b (Nat.ne_of_lt (Nat.lt_of_lt_of_le (Heap.lt_size e) I.ok.above))).trans e1⟩
    · obtain ⟨o', e1⟩ := I.base.there b o e hx
      exact ⟨o', (hs.2 b (Nat.ne_of_lt (Nat.lt_of_lt_of_le (Heap.lt_size e) I.ok.above))).trans e1⟩
    · by_cases hj : j = i
      · subst hj
        rw [hi] at e1; cases e1
        rw [List.getElem?_set_self hiσ] at e2
        cases e2
        exact ⟨u, r, .inl ⟨hk, by simp⟩⟩
      · rw [List.getElem?_set_ne (Ne.symm hj)] at e2
        obtain ⟨u', r', q⟩ := hl j y v' e1 e2 e3
        refine ⟨u', r', ?_⟩
        rcases q with ⟨k, e⟩ | ⟨k, c, e, z⟩
        · refine .inl ⟨k, ?_⟩
          have : y ≠ x := fun e => hj (nodup_ix hN e1 (e ▸ hi))
          simp [this, e]
        · exact .inr ⟨k, c, e, z.sameBut hs (cne y c e)⟩
    · obtain ⟨w', z⟩ := I.cell y c e
      exact ⟨w', z.sameBut hs (cne y c e)⟩
    · obtain ⟨e, n, ne, nf, d⟩ := I.pin p hp
      exact ⟨(hs.2 p.1 ne).trans e, n, ne, nf, d⟩
  · have hfn : X.fn x = true := by
      rcases hf with z | z
      · exact z
      · rw [z] at hk; cases hk
    obtain ⟨c, hc⟩ := I.ok.has x (.inl hk)
    obtain ⟨w', z⟩ := I.cell x c hc
    refine wpAny_storeName_cell I.ok.kind hk hc z (fun h' hc' hs => ?_)
    obtain ⟨oc, hoc, hocd⟩ := id z
    refine h { s with heap := h' } ⟨I.ok, I.os, I.bare, ⟨fun b o e n hb hx => ?_, fun b o e n hb hx => ?_, I.base.free, fun b o e hx => ?_, I.base.tups, I.base.frzs, I.base.tbls⟩, ⟨m, hn.sameBut hs (Ne.symm (cne x c hc)), fun j y v' e1 e2 e3 => ?_⟩, fun y c' e => ?_, I.free, I.freeC, fun p hp => ?_, tracked ⟨oc, hoc, I.freeC x c hc⟩ hs, by simpa using I.len⟩ ⟨c, hs, .inr hc⟩
    · exact (hs.2 b (Nat.ne_of_lt (Nat.lt_of_lt_of_le (Heap.lt_size e) (I.ok.cab x c hfn hc)))).trans (I.base.keep b o e n hb hx)
    · obtain ⟨sl, e1⟩ := I.base.slot b o e n hb hx
      exact ⟨sl, (hs.2 b (Nat.ne_of_lt (Nat.lt_of_lt_of_le (Heap.lt_size e) (I.ok.cab x c hfn hc)))).trans e1⟩
    · obtain ⟨o', e1⟩ := I.base.there b o e hx
      exact ⟨o', (hs.2 b (Nat.ne_of_lt (Nat.lt_of_lt_of_le (Heap.lt_size e) (I.ok.cab x c hfn hc)))).trans e1⟩
    · by_cases hj : j = i
      · subst hj
        rw [hi] at e1; cases e1
        rw [List.getElem?_set_self hiσ] at e2
        cases e2
        exact ⟨u, r, .inr ⟨.inl hk, c, hc, hc'⟩⟩
      · rw [List.getElem?_set_ne (Ne.symm hj)] at e2
        obtain ⟨u', r', q⟩ := hl j y v' e1 e2 e3
        refine ⟨u', r', ?_⟩
        rcases q with q | ⟨k, c', e, z'⟩
        · exact .inl q
        · refine .inr ⟨k, c', e, z'.sameBut hs ?_⟩
          rintro rfl
          exact hj (nodup_ix hN e1 (I.ok.inj _ _ _ e hc ▸ hi))
    · by_cases hcc : c' = c
      · subst hcc; exact ⟨_, hc'⟩
      · obtain ⟨w2, z2⟩ := I.cell y c' e
        exact ⟨w2, z2.sameBut hs hcc⟩
    · obtain ⟨e, n, ne, nf, d⟩ := I.pin p hp
      refine ⟨(hs.2 p.1 ?_).trans e, n, ne, nf, d⟩
      intro q
      rw [q, hoc] at e
      have q' : oc = p.2 := Option.some.inj e
      exact d w' (by rw [← q']; exact hocd)
theorem store_ok {M : Model} {A : Around} {E : Value → Shared → Prop} {i : Nat} {x : Str} {v : V} {u : Value} {Q : Unit → Shared → Prop} (I : Inv X pins σ H s) (hN : X.N.Nodup) (hi : X.N[i]? = some x) (hx : Loc X.env.scope x) (r : RelV v u)
    (h : ∀ s', Inv X pins (σ.set i (some v)) H s' → Q () s') (hf : X.fn x = true ∨ X.env.scope.names.lookup x = some .local := by first | exact .inl rfl | exact .inr rfl | assumption) : wpAny M A (storeName X.env x u) Q E s :=
  store_ok2 I hN hi hx r (fun s' I' _ => h s' I') hf
/-- behind a call or a block, the state as it is -/
theorem Inv.call' {s' : Shared} {ch : List Addr} (I : Inv X pins σ H s) (ho : s'.os = s.os) (u : Un (frs X.stack) ch H H' s.heap s'.heap) (hok : HOk X.prog X.w H' s'.heap) (hg : AllBare s'.gens)
    (hch : ∀ b ∈ ch, (b ∈ X.ex ∨ X.s₀.heap.objs.size ≤ b) ∧ b ≠ X.env.locals ∧ (∀ x c, X.env.cells.lookup x = some c → c ≠ b) ∧ ∀ p ∈ X.pn ++ pins, p.1 ≠ b) : Inv X pins σ H' s' := by
  obtain ⟨h', g', d', t', o'⟩ := s'
  have e : o' = s.os := ho
  subst e
  exact I.call (g' := g') (t' := t') (d' := d') u hok hg hch
end

/-! ### the judgements -/
/-- an exception: its class, its own dict's address (where it has one), the abstract heap behind it -/
noncomputable abbrev XK := Value → Option Addr → Hp → Prop
noncomputable abbrev St := List (Option V)
noncomputable abbrev VK := V → Hp → Prop
/-- an expression's reading; a test's; an argument list's -/
noncomputable abbrev TE := St → Hp → VK → Prop
noncomputable abbrev TT := St → Hp → (Bool → Hp → Prop) → Prop
noncomputable abbrev TA := St → Hp → (List V → Hp → Prop) → Prop
/-- what is wanted behind a statement -/
structure Ends where
  nx : St → Hp → Prop
  rt : VK
  bk : St → Hp → Prop := fun _ _ => False
  ct : St → Hp → Prop := fun _ _ => False
noncomputable abbrev TS := Ends → St → Hp → Prop

noncomputable def EP (X : Cx) (pins : List (Addr × Obj)) (σ : St) (Q : VK) (u : Value) (s' : Shared) : Prop := ∃ v H', Inv X pins σ H' s' ∧ RelV v u ∧ Q v H'
noncomputable def TP (X : Cx) (pins : List (Addr × Obj)) (σ : St) (Q : Bool → Hp → Prop) (b : Bool) (s' : Shared) : Prop := ∃ H', Inv X pins σ H' s' ∧ Q b H'
noncomputable def AP (X : Cx) (pins : List (Addr × Obj)) (σ : St) (Q : List V → Hp → Prop) (us : List Value) (s' : Shared) : Prop := ∃ vs H', Inv X pins σ H' s' ∧ Vals vs us ∧ Q vs H'
noncomputable def SP (X : Cx) (pins : List (Addr × Obj)) (D : Ends) (f : Flow) (s' : Shared) : Prop :=
  match f with
  | .next => ∃ σ' H', Inv X pins σ' H' s' ∧ D.nx σ' H'
  | .brk => ∃ σ' H', Inv X pins σ' H' s' ∧ D.bk σ' H'
  | .cont => ∃ σ' H', Inv X pins σ' H' s' ∧ D.ct σ' H'
  | .ret u => ∃ v σ' H', Inv X pins σ' H' s' ∧ RelV v u ∧ D.rt v H'

noncomputable def PE (X : Cx) (e : Expr) (t : TE) : Prop :=
  ∀ (pins : List (Addr × Obj)) (s : Shared) (σ : St) (H : Hp) (Q : VK), Inv X pins σ H s → t σ H Q → wpAny (model X.prog X.w) X.A (eval e X.env) (EP X pins σ Q) X.xe s
noncomputable def PT (X : Cx) (e : Expr) (t : TT) : Prop :=
  ∀ (pins : List (Addr × Obj)) (s : Shared) (σ : St) (H : Hp) (Q : Bool → Hp → Prop), Inv X pins σ H s → t σ H Q → wpAny (model X.prog X.w) X.A (isTrue e X.env (eval e X.env)) (TP X pins σ Q) X.xe s
/-- a test whatever its 'whole' is (and, or) -/
noncomputable def PW (X : Cx) (e : Expr) (t : TT) : Prop :=
  ∀ (whole : Sem Value) (pins : List (Addr × Obj)) (s : Shared) (σ : St) (H : Hp) (Q : Bool → Hp → Prop), Inv X pins σ H s → t σ H Q → wpAny (model X.prog X.w) X.A (isTrue e X.env whole) (TP X pins σ Q) X.xe s
theorem PW.pt {X : Cx} {e : Expr} {t : TT} (h : PW X e t) : PT X e t := h _
/-- an argument list (no star), from the left -/
noncomputable def PA (X : Cx) (es : List Expr) (t : TA) : Prop :=
  ∀ (pos : Pos) (pins : List (Addr × Obj)) (s : Shared) (σ : St) (H : Hp) (Q : List V → Hp → Prop), Inv X pins σ H s → t σ H Q → wpAny (model X.prog X.w) X.A (spliced (backTo pos (starEach es X.env))) (AP X pins σ Q) X.xe s
noncomputable def PS (X : Cx) (st : Stmt) (t : TS) : Prop :=
  ∀ (pins : List (Addr × Obj)) (s : Shared) (σ : St) (H : Hp) (D : Ends), Inv X pins σ H s → t D σ H → wpAny (model X.prog X.w) X.A (exec st X.env) (SP X pins D) X.xe s
noncomputable def PSs (X : Cx) (st : List Stmt) (t : TS) : Prop :=
  ∀ (pins : List (Addr × Obj)) (s : Shared) (σ : St) (H : Hp) (D : Ends), Inv X pins σ H s → t D σ H → wpAny (model X.prog X.w) X.A (execs st X.env) (SP X pins D) X.xe s
/-- weaken the end -/
theorem thn {α : Type} {t : Sem α} {Q Q' : α → Shared → Prop} {M : Model} {A : Around} {E : Value → Shared → Prop} {s : Shared} (h : wpAny M A t Q E s) (hQ : ∀ a s, Q a s → Q' a s) : wpAny M A t Q' E s := wpAny_mono h hQ fun _ _ x => x
end L2

namespace L2
open PySem PySem.Spec PyProof.Rows
section
variable {X : Cx}

/-- two expressions in a row -/
theorem bin {a b : Expr} {ta tb : TE} (ha : PE X a ta) (hb : PE X b tb) {pins : List (Addr × Obj)} {s : Shared} {σ : St} {H : Hp} {R : V → V → Hp → Prop} (I : Inv X pins σ H s) (h : ta σ H fun x H1 => tb σ H1 fun y H2 => R x y H2)
    {α : Type} {Q : α → Shared → Prop} {f : Value → Value → Sem α}
    (hf : ∀ v u s2 x y H2, Inv X pins σ H2 s2 → RelV x v → RelV y u → R x y H2 → wpAny (model X.prog X.w) X.A (f v u) Q X.xe s2) :
    wpAny (model X.prog X.w) X.A (eval a X.env) (fun v s₁ => wpAny (model X.prog X.w) X.A (eval b X.env) (fun u s₂ => wpAny (model X.prog X.w) X.A (f v u) Q X.xe s₂) X.xe s₁) X.xe s := by
  refine thn (ha pins s σ H _ I h) fun v s1 ⟨x, H1, I1, r1, q1⟩ => ?_
  refine thn (hb pins s1 σ H1 _ I1 q1) fun u s2 ⟨y, H2, I2, r2, q2⟩ => ?_
  exact hf v u s2 x y H2 I2 r1 r2 q2

/-! ### names and constants -/
noncomputable def tVar (i : Nat) : TE := fun σ H Q => ∃ v, σ[i]? = some (some v) ∧ Q v H
noncomputable def tC (v : V) : TE := fun _ H Q => Q v H
theorem pe_var {i : Nat} {x : Str} {pos : Pos} (hN : X.N[i]? = some x) (hv : Vis X.env.scope x) (hd : (x == ("__debug__" : Str)) = false := by decide) (hcd : (x == ("__classdict__" : Str)) = false := by decide) : PE X (.Name x pos) (tVar i) := by
  intro pins s σ H Q I h
  obtain ⟨v, e, h⟩ := h
  obtain ⟨m, hn, hl⟩ := I.loc
  obtain ⟨u, r, l⟩ := hl i x v hN e hv
  have fin : EP X pins σ Q u s := ⟨v, H, I, r, h⟩
  rcases l with ⟨hk, hm⟩ | ⟨hk, c, hc, hcell⟩
  · exact wpAny_Name (wpAny_loadName_local I.ok.kind hk hn hm fin) hd
  · rcases hk with hk | hk
    · exact wpAny_Name (wpAny_loadName_cell I.ok.kind hk hc hcell fin) hd
    · exact wpAny_Name (wpAny_loadName_free I.ok.kind hk hc hcell fin hcd) hd
theorem pe_int {i j pos} : PE X (.Constant (.int i) j pos) (tC (.int i)) := fun _ _ _ H _ I h => wpAny_Constant_int ⟨.int i, H, I.tok _, ⟨_, rfl⟩, h⟩
theorem pe_bl {b j pos} : PE X (.Constant (.bool b) j pos) (tC (.bl b)) := fun _ _ _ H _ I h => Constant_bool ⟨.bl b, H, I, rfl, h⟩
theorem pe_non {j pos} : PE X (.Constant .none j pos) (tC .non) := fun _ _ _ H _ I h => Constant_none ⟨.non, H, I, rfl, h⟩
theorem pe_str {x j pos} : PE X (.Constant (.str x) j pos) (tC (.str x)) := fun _ _ _ H _ I h => Calls.Constant_str ⟨.str x, H, I.tok _, ⟨_, rfl⟩, h⟩

/-- a global name of the def -/
noncomputable def Gl (X : Cx) (x : Str) : Prop := X.env.kindOf x = some .globalImplicit
theorem ld_glob {E : Value → Shared → Prop} {pins : List (Addr × Obj)} {s : Shared} {σ : St} {H : Hp} {x : Str} {u : Value} {pos : Pos} {Q : Value → Shared → Prop} (I : Inv X pins σ H s) (hg : Gl X x) (hm : X.mg x = some u) (h : Q u s)
    (hd : (x == ("__debug__" : Str)) = false := by decide) : wpAny (model X.prog X.w) X.A (eval (.Name x pos) X.env) Q E s :=
  Calls.Name_function_global I.ok.kind hg (Calls.loadGlobal_global (by rw [I.ok.glob]; exact I.mod.glob.keeps I.bk) hm h) hd
theorem ld_blt {E : Value → Shared → Prop} {pins : List (Addr × Obj)} {s : Shared} {σ : St} {H : Hp} {x : Str} {u : Value} {pos : Pos} {Q : Value → Shared → Prop} (I : Inv X pins σ H s) (hg : Gl X x) (hm : X.mg x = none) (hv : bootBuiltins x = some u) (h : Q u s)
    (hn : x ≠ "__name__" := by decide) (hd : (x == ("__debug__" : Str)) = false := by decide) : wpAny (model X.prog X.w) X.A (eval (.Name x pos) X.env) Q E s := by
  obtain ⟨mb, h1, h2⟩ := I.mod.blt
  exact Calls.Name_function_global I.ok.kind hg (Calls.loadGlobal_builtin (by rw [I.ok.glob]; exact I.mod.glob.keeps I.bk) hm (by rw [I.ok.blt]; exact h1.keeps I.bk) ((h2 x hn).trans hv) h) hd
/-- a module's constant, a class, a function, as a value -/
theorem pe_glob {x : Str} {v : V} {u : Value} {pos : Pos} (hg : Gl X x) (hm : X.mg x = some u) (r : RelV v u) (hd : (x == ("__debug__" : Str)) = false := by decide) : PE X (.Name x pos) (tC v) :=
  fun _ _ _ H _ I h => ld_glob I hg hm ⟨v, H, I, r, h⟩ hd
theorem pe_bltn {x : Str} {v : V} {u : Value} {pos : Pos} (hg : Gl X x) (hm : X.mg x = none) (hv : bootBuiltins x = some u) (r : RelV v u) (hn : x ≠ "__name__" := by decide) (hd : (x == ("__debug__" : Str)) = false := by decide) : PE X (.Name x pos) (tC v) :=
  fun _ _ _ H _ I h => ld_blt I hg hm hv ⟨v, H, I, r, h⟩ hn hd

/-! ### arithmetic -/
variable {a b : Expr} {ta tb : TE} {pos : Pos}
/-! ### comparisons -/
/-- a comparison as a value, as a test -/
noncomputable def tB (t : TE) : TT := fun σ H Q => t σ H fun x H1 => ∃ c, x = .bl c ∧ Q c H1
/-- an expression whose value is a bool, as a test -/
theorem pt_val {e : Expr} {t : TE} (h : PE X e t) (he : ∀ whole, isTrue e X.env whole = (do let v ← whole; standAt e.pos; holding [v] (truthy v)) := by intro _; rfl) : PT X e (tB t) := by
  intro pins s σ H Q I hw
  refine isTrue_plain (thn (h pins s σ H _ I hw) fun v s1 ⟨x, H1, I1, r1, q1⟩ => ?_) (he _)
  obtain ⟨d, rfl, q⟩ := q1
  cases r1
  exact wpAny_truthy_bool ⟨H1, I1, q⟩

/-! ### and, or, not -/
variable {tA tB' : TT} {rest : List Expr}
noncomputable def tAnd (t u : TT) : TT := fun σ H Q => t σ H fun c H1 => if c = true then u σ H1 Q else Q false H1
noncomputable def tOr (t u : TT) : TT := fun σ H Q => t σ H fun c H1 => if c = true then Q true H1 else u σ H1 Q
noncomputable def tNot (t : TT) : TT := fun σ H Q => t σ H fun c H1 => Q (!c) H1
theorem pw_and1 (ha : PT X a tA) : PW X (.BoolOp .And [a] pos) tA := by
  intro wh pins s σ H Q I h
  refine isTrue_and (thn (ha pins s σ H Q I h) fun c s1 e => ?_)
  cases c with
  | true => exact isTrue_and_nil e
  | false => exact e
theorem pw_or1 (ha : PT X a tA) : PW X (.BoolOp .Or [a] pos) tA := by
  intro wh pins s σ H Q I h
  refine isTrue_or (thn (ha pins s σ H Q I h) fun c s1 e => ?_)
  cases c with
  | false => exact isTrue_or_nil e
  | true => exact e
theorem pw_and (ha : PT X a tA) (hb : PW X (.BoolOp .And (b :: rest) pos) tB') : PW X (.BoolOp .And (a :: b :: rest) pos) (tAnd tA tB') := by
  intro wh pins s σ H Q I h
  refine isTrue_and (thn (ha pins s σ H _ I h) fun c s1 ⟨H1, I1, q1⟩ => ?_)
  cases c with
  | true => exact hb wh pins s1 σ H1 Q I1 q1
  | false => exact ⟨H1, I1, q1⟩
theorem pw_or (ha : PT X a tA) (hb : PW X (.BoolOp .Or (b :: rest) pos) tB') : PW X (.BoolOp .Or (a :: b :: rest) pos) (tOr tA tB') := by
  intro wh pins s σ H Q I h
  refine isTrue_or (thn (ha pins s σ H _ I h) fun c s1 ⟨H1, I1, q1⟩ => ?_)
  cases c with
  | true => exact ⟨H1, I1, q1⟩
  | false => exact hb wh pins s1 σ H1 Q I1 q1
theorem pt_not (ha : PT X a tA) : PT X (.UnaryOp .Not a pos) (tNot tA) := by
  intro pins s σ H Q I h
  exact isTrue_not (ha pins s σ H (fun c H1 => Q (!c) H1) I h)
/-- .. as values (bools) -/
noncomputable def tAndV (ta tb : TE) : TE := fun σ H Q => ta σ H fun x H1 => ∃ c, x = .bl c ∧ if c = true then tb σ H1 Q else Q (.bl false) H1
noncomputable def tOrV (ta tb : TE) : TE := fun σ H Q => ta σ H fun x H1 => ∃ c, x = .bl c ∧ if c = true then Q (.bl true) H1 else tb σ H1 Q
theorem pe_one {op} {t : TE} (h : PE X a t) : PE X (.BoolOp op [a] pos) t := fun pins s σ H Q I hw => BoolOp_one (h pins s σ H Q I hw)
theorem pe_and (ha : PE X a ta) (hb : PE X (.BoolOp .And (b :: rest) pos) tb) : PE X (.BoolOp .And (a :: b :: rest) pos) (tAndV ta tb) := by
  intro pins s σ H Q I h
  refine BoolOp_and (thn (ha pins s σ H _ I h) fun v s1 ⟨x, H1, I1, r1, q1⟩ => ?_)
  obtain ⟨c, rfl, q1⟩ := q1
  cases r1
  refine wpAny_truthy_bool ?_
  cases c with
  | true => exact hb pins s1 σ H1 Q I1 q1
  | false => exact ⟨.bl false, H1, I1, rfl, q1⟩
theorem pe_or (ha : PE X a ta) (hb : PE X (.BoolOp .Or (b :: rest) pos) tb) : PE X (.BoolOp .Or (a :: b :: rest) pos) (tOrV ta tb) := by
  intro pins s σ H Q I h
  refine BoolOp_or (thn (ha pins s σ H _ I h) fun v s1 ⟨x, H1, I1, r1, q1⟩ => ?_)
  obtain ⟨c, rfl, q1⟩ := q1
  cases r1
  refine wpAny_truthy_bool ?_
  cases c with
  | false => exact hb pins s1 σ H1 Q I1 q1
  | true => exact ⟨.bl true, H1, I1, rfl, q1⟩
/-- a if t else b -/
noncomputable def tIf (t : TT) (ta tb : TE) : TE := fun σ H Q => t σ H fun c H1 => if c = true then ta σ H1 Q else tb σ H1 Q
theorem pe_ifExp {c : Expr} (hc : PT X c tA) (ha : PE X a ta) (hb : PE X b tb) : PE X (.IfExp c a b pos) (tIf tA ta tb) := by
  intro pins s σ H Q I h
  refine wpAny_IfExp (thn (hc pins s σ H _ I h) fun d s1 ⟨H1, I1, q1⟩ => ?_)
  cases d with
  | true => exact ha pins s1 σ H1 Q I1 q1
  | false => exact hb pins s1 σ H1 Q I1 q1
end
end L2

namespace L2
open PySem PySem.Spec PyProof.Rows

/-! ### a list, a tuple that is read: tracked, frozen, or an object of the module -/
noncomputable def SqL (K : PySem.W.Frag) (H : Hp) (a : Addr) (xs : List V) : Prop :=
  Rd H a (.lst xs) ∨
    ∃ (o : Obj) (its : Array Value) (n : Nat), K.lookup a = some o ∧ o.cls = .type "list" ∧ o.dict = none ∧ o.data = .seq its n ∧ its.size ≤ sizeLine ∧ Vals xs its.toList
noncomputable def SqT (K : PySem.W.Frag) (H : Hp) (a : Addr) (xs : List V) : Prop :=
  Rd H a (.tup xs) ∨
    ∃ (o : Obj) (its : Array Value) (n : Nat), K.lookup a = some o ∧ o.cls = .type "tuple" ∧ o.data = .seq its n ∧ its.size ≤ sizeLine ∧ Vals xs its.toList
noncomputable def absV : Value → Option V
  | .none => some .non
  | .bool b => some (.bl b)
  | .int i _ => some (.int i)
  | .str x _ => some (.str x)
  | .bytes b _ => some (.byt b)
  | .float b _ => some (.flt b)
  | .ref a => some (.ref a)
  | .type n => some (.ty n)
  | _ => none
theorem RelV.abs {x : V} {u : Value} (r : RelV x u) : absV u = some x := by
  cases x with
  | non => cases r; rfl
  | bl _ => cases r; rfl
  | int _ => obtain ⟨t, rfl⟩ := r; rfl
  | str _ => obtain ⟨t, rfl⟩ := r; rfl
  | byt _ => obtain ⟨t, rfl⟩ := r; rfl
  | flt _ => obtain ⟨t, rfl⟩ := r; rfl
  | ref _ => cases r; rfl
  | ty _ => cases r; rfl
theorem RelV.inj {x y : V} {u : Value} (r : RelV x u) (q : RelV y u) : x = y := Option.some.inj (r.abs.symm.trans q.abs)
theorem Vals.inj : ∀ {xs ys : List V} {us : List Value}, Vals xs us → Vals ys us → xs = ys
  | _, _, _, .nil, .nil => rfl
  | _, _, _, .cons r t, .cons r' t' => by rw [r.inj r', Vals.inj t t']
section
variable {X : Cx} {pins : List (Addr × Obj)} {σ : St} {H : Hp} {s : Shared} {a : Addr} {xs ys : List V}
theorem SqL.of {K : PySem.W.Frag} (h : H a = some (.lst xs)) : SqL K H a xs := .inl (.inl h)
theorem SqT.of {K : PySem.W.Frag} (h : H a = some (.tup xs)) : SqT K H a xs := .inl (.inl h)
theorem Inv.list (I : Inv X pins σ H s) (h : SqL X.K H a xs) : ∃ its : List Value, Vals xs its ∧ PlainL s.heap a its.toArray ∧ xs.length ≤ sizeLine := by
  rcases h with h | ⟨o, its, n, hk, hc, hd, hs, hz, r⟩
  · obtain ⟨z, its, n, r, e⟩ := h.ok I.hok
    exact ⟨its, r, ⟨_, n, e, rfl, rfl, rfl⟩, z⟩
  · refine ⟨its.toList, r, ⟨o, n, I.kIn a o hk, hc, hd, by simpa using hs⟩, ?_⟩
    have e := r.length
    simp only [Array.length_toList] at e
    omega
theorem Inv.tuple (I : Inv X pins σ H s) (h : SqT X.K H a xs) : ∃ its : List Value, Vals xs its ∧ IsTup s.heap a its.toArray ∧ xs.length ≤ sizeLine := by
  rcases h with h | ⟨o, its, n, hk, hc, hs, hz, r⟩
  · obtain ⟨z, its, r, p⟩ := h.ok I.hok
    exact ⟨its, r, p, z⟩
  · refine ⟨its.toList, r, ⟨o, I.kIn a o hk, hc, n, by simpa using hs⟩, ?_⟩
    have e := r.length
    simp only [Array.length_toList] at e
    omega
theorem Inv.list_inj (I : Inv X pins σ H s) (h : SqL X.K H a xs) (h' : SqL X.K H a ys) : xs = ys := by
  obtain ⟨its, r, ⟨o, n, e, _, _, d⟩, _⟩ := I.list h
  obtain ⟨its', r', ⟨o', n', e', _, _, d'⟩, _⟩ := I.list h'
  rw [e] at e'; cases e'
  rw [d] at d'
  injection d' with d1 _
  have : its = its' := by simpa using congrArg Array.toList d1
  subst this
  exact r.inj r'
theorem Inv.tuple_inj (I : Inv X pins σ H s) (h : SqT X.K H a xs) (h' : SqT X.K H a ys) : xs = ys := by
  obtain ⟨its, r, ⟨o, e, _, n, d⟩, _⟩ := I.tuple h
  obtain ⟨its', r', ⟨o', e', _, n', d'⟩, _⟩ := I.tuple h'
  rw [e] at e'; cases e'
  rw [d] at d'
  injection d' with d1 _
  have : its = its' := by simpa using congrArg Array.toList d1
  subst this
  exact r.inj r'
end

/-! ### another wish about exceptions -/
noncomputable abbrev Cx.wish (X : Cx) (E : Value → Shared → Prop) : Cx := { X with xe := E }
/-- no exception leaves -/
noncomputable abbrev Cx.nox (X : Cx) : Cx := X.wish fun _ _ => False
theorem Cx.Ok.wish {X : Cx} (ok : X.Ok) (E : Value → Shared → Prop) : (X.wish E).Ok :=
  ⟨ok.mod, ok.kind, ok.glob, ok.blt, ok.above, ok.inj, ok.has, ok.cab, ok.hd, ok.frames, ok.stk, ok.exf, ok.bs, ok.bsz, ok.noex, ok.exfs, ok.funs, ok.frf⟩
theorem Cx.Ok.unwish {X : Cx} {E : Value → Shared → Prop} (ok : (X.wish E).Ok) : X.Ok :=
  ⟨ok.mod, ok.kind, ok.glob, ok.blt, ok.above, ok.inj, ok.has, ok.cab, ok.hd, ok.frames, ok.stk, ok.exf, ok.bs, ok.bsz, ok.noex, ok.exfs, ok.funs, ok.frf⟩
section
variable {X : Cx} {pins : List (Addr × Obj)} {σ : St} {H : Hp} {s : Shared} {E : Value → Shared → Prop}
theorem Inv.wish (I : Inv X pins σ H s) (E : Value → Shared → Prop) : Inv (X.wish E) pins σ H s := ⟨I.ok.wish E, I.os, I.bare, I.base, I.loc, I.cell, I.free, I.freeC, I.pin, I.hok, I.len⟩
theorem Inv.unwish (I : Inv (X.wish E) pins σ H s) : Inv X pins σ H s := ⟨I.ok.unwish, I.os, I.bare, I.base, I.loc, I.cell, I.free, I.freeC, I.pin, I.hok, I.len⟩
theorem SP.unwish {D : Ends} {f : Flow} {s' : Shared} (h : SP (X.wish E) pins D f s') : SP X pins D f s' := by
  cases f with
  | next => obtain ⟨σ', H', I, q⟩ := h; exact ⟨σ', H', I.unwish, q⟩
  | brk => obtain ⟨σ', H', I, q⟩ := h; exact ⟨σ', H', I.unwish, q⟩
  | cont => obtain ⟨σ', H', I, q⟩ := h; exact ⟨σ', H', I.unwish, q⟩
  | ret u => obtain ⟨v, σ', H', I, r, q⟩ := h; exact ⟨v, σ', H', I.unwish, r, q⟩
theorem PSs.nox {st : List Stmt} {t : TS} (h : PSs X.nox st t) : PSs X st t := fun pins s σ H D I hw =>
  wpAny_mono (h pins s σ H D (I.wish _) hw) (fun _ _ q => q.unwish) fun _ _ z => False.elim z
end

/-! ### blocks and small statements -/
section
variable {X : Cx} {st : Stmt} {rest : List Stmt} {t u : TS} {e : Expr} {te : TE} {pos : Pos}
noncomputable def tNext : TS := fun D σ H => D.nx σ H
noncomputable def tSeq (t u : TS) : TS := fun D σ H => t { D with nx := u D } σ H
theorem pss_nil : PSs X [] tNext := fun _ _ σ H _ I h => wpAny_execs_nil ⟨σ, H, I, h⟩
theorem pss_cons (h1 : PS X st t) (h2 : PSs X rest u) : PSs X (st :: rest) (tSeq t u) := by
  intro pins s σ H D I h
  refine wpAny_execs_cons (thn (h1 pins s σ H { D with nx := u D } I h) fun f s1 q => ?_)
  cases f with
  | next =>
    obtain ⟨σ', H', I', q⟩ := q
    exact h2 pins s1 σ' H' D I' q
  | ret v => exact q
  | brk => exact q
  | cont => exact q
theorem pss_one (h1 : PS X st t) : PSs X [st] t := by
  intro pins s σ H D I h
  refine wpAny_execs_cons (thn (h1 pins s σ H D I h) fun f s1 q => ?_)
  cases f with
  | next => exact wpAny_execs_nil q
  | ret v => exact q
  | brk => exact q
  | cont => exact q
/-- in a def's body nothing is shown -/
theorem Inv.quiet {pins : List (Addr × Obj)} {σ : St} {H : Hp} {s : Shared} (I : Inv X pins σ H s) : interactive X.env = false := by simp [interactive, I.ok.kind]
/-- an expression whose value is dropped -/
noncomputable def tDrop (te : TE) : TS := fun D σ H => te σ H fun _ H1 => D.nx σ H1
theorem ps_expr (he : PE X e te) (hs : swapsWith e none pos.line X.env = pure false := by rfl) : PS X (.Expr e pos) (tDrop te) := by
  intro pins s σ H D I h
  exact wpAny_Expr_any (thn (he pins s σ H _ I h) fun v s1 ⟨x, H1, I1, r1, q1⟩ => ⟨σ, H1, I1, q1⟩) I.quiet hs
noncomputable def tRet (te : TE) : TS := fun D σ H => te σ H D.rt
theorem ps_ret (he : PE X e te) : PS X (.Return (some e) pos) (tRet te) := by
  intro pins s σ H D I h
  exact wpAny_Return_some (thn (he pins s σ H _ I h) fun v s1 ⟨x, H1, I1, r1, q1⟩ => ⟨x, σ, H1, I1, r1, q1⟩)
noncomputable def tIfS (c : TT) (t u : TS) : TS := fun D σ H => c σ H fun b H1 => if b = true then t D σ H1 else u D σ H1
theorem ps_if {c : Expr} {a b : List Stmt} {tc : TT} (hc : PT X c tc) (ha : PSs X a t) (hb : PSs X b u) : PS X (.If c a b pos) (tIfS tc t u) := by
  intro pins s σ H D I h
  refine wpAny_If (thn (hc pins s σ H _ I h) fun d s1 ⟨H1, I1, q1⟩ => ?_)
  cases d with
  | true => exact ha pins s1 σ H1 D I1 q1
  | false => exact hb pins s1 σ H1 D I1 q1
end

/-! ### targets -/
noncomputable abbrev TG := V → St → Hp → (St → Hp → Prop) → Prop
noncomputable abbrev TGs := List V → St → Hp → (St → Hp → Prop) → Prop
noncomputable def PG (X : Cx) (target : Expr) (t : TG) : Prop :=
  ∀ (pins : List (Addr × Obj)) (s : Shared) (σ : St) (H : Hp) (v : V) (u : Value) (Q : St → Hp → Prop), Inv X pins σ H s → RelV v u → t v σ H Q →
    wpAny (model X.prog X.w) X.A (assign target X.env u) (fun _ s' => ∃ σ' H', Inv X pins σ' H' s' ∧ Q σ' H') X.xe s
/-- several targets, one after another -/
noncomputable def PGs (X : Cx) (ts : List Expr) (t : TGs) : Prop :=
  ∀ (pins : List (Addr × Obj)) (s : Shared) (σ : St) (H : Hp) (vs : List V) (us : List Value) (Q : St → Hp → Prop), Inv X pins σ H s → Vals vs us → t vs σ H Q →
    wpAny (model X.prog X.w) X.A (assignInOrder ((assignEach ts X.env).map (·.2)) us) (fun _ s' => ∃ σ' H', Inv X pins σ' H' s' ∧ Q σ' H') X.xe s
/-- o[i] = v, by values -/
noncomputable abbrev TSet := V → V → V → Hp → (Hp → Prop) → Prop
noncomputable def PSet (X : Cx) (t : TSet) : Prop :=
  ∀ (pins : List (Addr × Obj)) (s : Shared) (σ : St) (H : Hp) (o i v : V) (ov iv u : Value) (Q : Hp → Prop), Inv X pins σ H s → RelV o ov → RelV i iv → RelV v u → t o i v H Q →
    wpAny (model X.prog X.w) X.A (setItem ov iv u) (fun _ s' => ∃ H', Inv X pins σ H' s' ∧ Q H') X.xe s
section
variable {X : Cx} {pos : Pos}
noncomputable def gName (i : Nat) : TG := fun v σ H Q => Q (σ.set i (some v)) H
theorem pg_name {i : Nat} {x : Str} (hN : X.N.Nodup) (hi : X.N[i]? = some x) (hx : Loc X.env.scope x) (hf : X.fn x = true ∨ X.env.scope.names.lookup x = some .local := by first | exact .inl rfl | exact .inr rfl | assumption) : PG X (.Name x pos) (gName i) := by
  intro pins s σ H v u Q I r h
  exact wpAny_assign_Name (store_ok I hN hi hx r (fun s' I' => ⟨_, H, I', h⟩) hf)
noncomputable def gNil : TGs := fun vs σ H Q => vs = [] ∧ Q σ H
noncomputable def gCons (t : TG) (u : TGs) : TGs := fun vs σ H Q => ∃ v r, vs = v :: r ∧ t v σ H fun σ' H' => u r σ' H' Q
theorem pgs_nil : PGs X [] gNil := by
  intro pins s σ H vs us Q I r h
  obtain ⟨e, h⟩ := h
  subst e
  cases r
  exact assignInOrder_nil ⟨σ, H, I, h⟩
theorem pgs_cons {e : Expr} {es : List Expr} {t : TG} {u : TGs} (h1 : PG X e t) (h2 : PGs X es u)
    (hs : (assignEach (e :: es) X.env).map (·.2) = assign e X.env :: (assignEach es X.env).map (·.2) := by rfl) : PGs X (e :: es) (gCons t u) := by
  intro pins s σ H vs us Q I r h
  obtain ⟨v, vr, e1, h⟩ := h
  subst e1
  cases r with
  | cons r rr =>
    rw [hs]
    refine assignInOrder_cons (thn (h1 pins s σ H _ _ _ I r h) fun _ s1 ⟨σ1, H1, I1, q1⟩ => ?_)
    exact h2 pins s1 σ1 H1 _ _ Q I1 rr q1
/-- (a, b, ..) = a tuple of that length -/
noncomputable def gTup (K : PySem.W.Frag) (n : Nat) (t : TGs) : TG := fun v σ H Q => ∃ a xs, v = .ref a ∧ SqT K H a xs ∧ xs.length = n ∧ t xs σ H Q
theorem pg_tup {es : List Expr} {k : Nat} {t : TGs} {n : Nat} (hc : X.calm = true) (h : PGs X es t)
    (hn : (assignEach es X.env).length = n := by rfl) (hst : (assignEach es X.env).findIdx? (·.1) = none := by rfl) : PG X (.Tuple es k pos) (gTup X.K n t) := by
  intro pins s σ H v u Q I r hw
  obtain ⟨a, xs, e1, hq, hl, hw⟩ := hw
  subst e1
  cases r
  obtain ⟨its, rv, ht, hz⟩ := I.tuple hq
  refine assign_Tuple_tuple (I.ok.hd hc) ht (by simp [hn, ← hl, rv.length]) hst fun h' hx => ?_
  have I1 : Inv X pins σ H { s with heap := h' } := I.kept (t' := s.toks) fun b o e => hx b o (Nat.ne_of_lt (Heap.lt_size e)) e
  exact h pins _ σ H xs _ Q I1 (by simpa using rv) hw
/-- o[i] = .. -/
noncomputable def gSub (to ti : TE) (t : TSet) : TG := fun v σ H Q => to σ H fun o H1 => ti σ H1 fun i H2 => t o i v H2 fun H3 => Q σ H3
theorem pg_sub {o i : Expr} {to ti : TE} {t : TSet} (ho : PE X o to) (hi : PE X i ti) (hs : PSet X t)
    (ha : ∀ v, assign (.Subscript o i pos) X.env v = (do
      let ov ← holding [v] (eval o X.env)
      let iv ← holding [v, ov] (eval i X.env)
      standAt pos
      holding [v, ov, iv] (setItem ov iv v)
      release [v, ov, iv] []) := by intro _; rfl) : PG X (.Subscript o i pos) (gSub to ti t) := by
  intro pins s σ H v u Q I r h
  rw [ha]
  refine wpAny_bind (wpAny_holding (thn (ho pins s σ H _ I h) fun ov s1 ⟨x, H1, I1, r1, q1⟩ => ?_))
  refine wpAny_bind (wpAny_holding (thn (hi pins s1 σ H1 _ I1 q1) fun iv s2 ⟨y, H2, I2, r2, q2⟩ => ?_))
  refine wpAny_bind (wpAny_standAt (wpAny_bind (wpAny_holding (thn (hs pins s2 σ H2 x y v ov iv u _ I2 r1 r2 r q2) fun _ s3 ⟨H3, I3, q3⟩ => ?_))))
  exact wpAny_release ⟨σ, H3, I3, q3⟩
/-- target = value -/
noncomputable def tAsg (te : TE) (g : TG) : TS := fun D σ H => te σ H fun x H1 => g x σ H1 D.nx
theorem ps_asg {tg e : Expr} {te : TE} {g : TG} (he : PE X e te) (hg : PG X tg g) (hs : swapsWithSole [tg] e pos.line X.env = pure false := by rfl) (hw : swappedStores [tg] e X.env = pure none := by rfl)
    (h1 : (assignEach [tg] X.env).map (·.2) = [assign tg X.env] := by rfl) : PS X (.Assign [tg] e pos) (tAsg te g) := by
  intro pins s σ H D I h
  refine wpAny_Assign_stores (thn (he pins s σ H _ I h) fun v s1 ⟨x, H1, I1, r1, q1⟩ => ?_) hs hw
  rw [h1]
  exact thn (hg pins s1 σ H1 x v _ I1 r1 q1) fun _ s2 q => q
/-- name = value -/
theorem ps_set {i : Nat} {x : Str} {e : Expr} {te : TE} {pos' : Pos} (hN : X.N.Nodup) (hi : X.N[i]? = some x) (hx : Loc X.env.scope x) (he : PE X e te) (hs : swapsWith e (some (.Name x pos')) pos.line X.env = pure false := by rfl) (hf : X.fn x = true ∨ X.env.scope.names.lookup x = some .local := by first | exact .inl rfl | exact .inr rfl | assumption) :
    PS X (.Assign [.Name x pos'] e pos) (tAsg te (gName i)) := by
  intro pins s σ H D I h
  refine wpAny_Assign_Name (thn (he pins s σ H _ I h) fun v s1 ⟨y, H1, I1, r1, q1⟩ => ?_) hs
  exact store_ok I1 hN hi hx r1 (fun s2 I2 => ⟨_, H1, I2, q1⟩) hf
end

/-! ### while -/
section
variable {X : Cx} {pos : Pos}
/-- the invariant W with its measure -/
noncomputable def tWhile (c : TT) (tb : TS) : TS := fun D σ H => ∃ W : Nat → St → Hp → Prop, (∃ m, W m σ H) ∧ ∀ m σ H, W m σ H →
  c σ H fun b H1 => if b = true then ∃ N : St → Hp → Prop, (∀ σ' H', N σ' H' → ∃ m', m' < m ∧ W m' σ' H') ∧ tb { D with nx := N, ct := N, bk := D.nx } σ H1 else D.nx σ H1
theorem ps_while {c : Expr} {body : List Stmt} {tc : TT} {tb : TS} (hp : PassesOwn (model X.prog X.w) X.A X.env X.xe) (hc : PT X c tc) (hb : PSs X body tb) : PS X (.While c body [] pos) (tWhile tc tb) := by
  intro pins s σ H D I h
  obtain ⟨W, ⟨m0, w0⟩, turn⟩ := h
  refine wpAny_While (codeAny_whileLoop (fun n s' => ∃ σ' H', Inv X pins σ' H' s' ∧ W n σ' H') ?_ m0 ⟨σ, H, I, w0⟩)
  rintro n s1 ⟨σ1, H1, I1, w1⟩
  refine wpAny_passesOwn hp (thn (hc pins s1 σ1 H1 _ I1 (turn n σ1 H1 w1)) fun b s2 ⟨H2, I2, q2⟩ => ?_)
  cases b with
  | true =>
    obtain ⟨N, hN, q2⟩ := q2
    rw [if_pos rfl]
    refine wpAny_passesOwn hp (thn (hb pins s2 σ1 H2 _ I2 q2) fun f s3 q3 => ?_)
    cases f with
    | next =>
      obtain ⟨σ3, H3, I3, n3⟩ := q3
      obtain ⟨m', hm, w3⟩ := hN σ3 H3 n3
      exact ⟨m', hm, σ3, H3, I3, w3⟩
    | cont =>
      obtain ⟨σ3, H3, I3, n3⟩ := q3
      obtain ⟨m', hm, w3⟩ := hN σ3 H3 n3
      exact ⟨m', hm, σ3, H3, I3, w3⟩
    | brk => exact q3
    | ret v => exact q3
  | false =>
    rw [if_neg Bool.false_ne_true]
    exact wpAny_execs_nil ⟨σ1, H2, I2, q2⟩
end

/-! ### what a loop or a comprehension walks -/
/-- at turn i: it yields x (the heap may grow), or it stops -/
structure It where
  go : Nat → Hp → Prop
  yld : Nat → Hp → V → Hp → Prop
  stop : Nat → Hp → Prop
/-- the iterator's own objects may turn: they are not the frame's, not pinned, younger than the entry (or a comprehension's own) -/
noncomputable def FpOk (X : Cx) (pins : List (Addr × Obj)) (H : Hp) (b : Addr) : Prop :=
  H b = none ∧ b ≠ X.env.locals ∧ b ∉ X.fs ∧ (b ∈ X.ex ∨ X.s₀.heap.objs.size ≤ b) ∧ (∀ x c, X.env.cells.lookup x = some c → c ≠ b) ∧ ∀ p ∈ X.pn ++ pins, p.1 ≠ b
theorem Inv.fpOk {X : Cx} {pins : List (Addr × Obj)} {σ : St} {H H' : Hp} {s : Shared} {b : Addr} (I : Inv X pins σ H s) (hb : s.heap.objs.size ≤ b) (hn : H' b = none) : FpOk X pins H' b := by
  refine ⟨hn, Nat.ne_of_gt (Nat.lt_of_lt_of_le I.lt hb), I.nofs hb, .inr (Nat.le_trans I.sz hb), fun x c e z => ?_, fun p hp z => ?_⟩
  · obtain ⟨v, q⟩ := I.cell x c e
    exact absurd (Nat.lt_of_lt_of_le q.lt (by rw [z]; exact hb)) (Nat.lt_irrefl _)
  · exact absurd (Nat.lt_of_lt_of_le (Heap.lt_size (I.pin p hp).1) (by rw [z]; exact hb)) (Nat.lt_irrefl _)
structure Turn (P : Program) (w : World) (K : PySem.W.Frag) (tg : Expr) (J : It) (fp : List Addr) (it : Addr) (tn : Nat → Heap → Prop) : Prop where
  mem : it ∈ fp
  obj : ∀ i h, tn i h → ∀ b ∈ fp, ∃ o, h.get? b = some o ∧ ∀ v, o.data ≠ .cell v
  keep : ∀ i h h', tn i h → (∀ b ∈ fp, ∀ o, h.get? b = some o → h'.get? b = some o) → tn i h'
  item : ∀ (X : Cx), X.prog = P → X.w = w → X.K = K → X.calm = true → ∀ (i : Nat) (pins : List (Addr × Obj)) (s : Shared) (σ : St) (H : Hp) (E : Value → Shared → Prop), Inv X pins σ H s → (∀ b ∈ fp, FpOk X pins H b) → tn i s.heap → J.go i H →
    wpAny (model P w) X.A (pyNext (.ref it)) (fun r s1 => ∃ u, r = some u ∧
      wpAny (model P w) X.A (letOwnedTupleGo tg (.ref it) u) (fun _ s2 => ∃ x H', Inv X pins σ H' s2 ∧ RelV x u ∧ J.yld i H x H' ∧ tn (i + 1) s2.heap ∧ ∀ b ∈ fp, H' b = none) E s1) E s
  done : ∀ (X : Cx), X.prog = P → X.w = w → X.K = K → X.calm = true → ∀ (i : Nat) (pins : List (Addr × Obj)) (s : Shared) (σ : St) (H : Hp) (E : Value → Shared → Prop), Inv X pins σ H s → (∀ b ∈ fp, FpOk X pins H b) → tn i s.heap → J.stop i H →
    wpAny (model P w) X.A (pyNext (.ref it)) (fun r s1 => r = none ∧ Inv X pins σ H s1) E s
  self : ∀ (A : Around) (i : Nat) (s : Shared) (Q : Value → Shared → Prop) (E : Value → Shared → Prop), tn i s.heap → Q (.ref it) s → wpAny (model P w) A (pyIter (.ref it)) Q E s
noncomputable abbrev TI := St → Hp → (It → Hp → Prop) → Prop
/-- an iterator has come -/
noncomputable def PIE (X : Cx) (pins : List (Addr × Obj)) (σ : St) (tg : Expr) (R : It → Hp → Prop) (itv : Value) (s2 : Shared) : Prop :=
  ∃ (it : Addr) (fp : List Addr) (tn : Nat → Heap → Prop) (J : It) (H' : Hp), itv = .ref it ∧ Inv X pins σ H' s2 ∧ Turn X.prog X.w X.K tg J fp it tn ∧ tn 0 s2.heap ∧ (∀ b ∈ fp, FpOk X pins H' b) ∧ R J H'
noncomputable def PI (X : Cx) (tg iter : Expr) (wi : TI) : Prop :=
  ∀ (pins : List (Addr × Obj)) (s : Shared) (σ : St) (H : Hp) (R : It → Hp → Prop), Inv X pins σ H s → wi σ H R →
    wpAny (model X.prog X.w) X.A (eval iter X.env) (fun v s1 => wpAny (model X.prog X.w) X.A (pyIter v) (PIE X pins σ tg R) X.xe s1) X.xe s

/-- the step ahead of the store is nothing for an iterator that keeps no tuple -/
theorem go_of {M : Model} {A : Around} {E : Value → Shared → Prop} {s : Shared} {tg : Expr} {it : Addr} {u : Value} {o : Obj} {n : String} {vs : Array Value} {Q : Unit → Shared → Prop} (ho : s.heap.get? it = some o) (hc : o.cls = .type n) (hd : o.data = .fields vs)
    (hn : ["enumerate", "zip", "dict_itemiterator", "dict_reverseitemiterator", "odict_iterator", "itertools.zip_longest", "itertools.pairwise"].contains n = false) (hQ : Q () s) : wpAny M A (letOwnedTupleGo tg (.ref it) u) Q E s := by
  unfold letOwnedTupleGo
  cases tg <;> first
    | exact wpAny_pure hQ
    | (cases u <;> first
        | exact wpAny_pure hQ
        | (refine wpAny_bind (wpAny_load ho ?_)
           rw [hc, hd]
           show wpAny M A (if (["enumerate", "zip", "dict_itemiterator", "dict_reverseitemiterator", "odict_iterator", "itertools.zip_longest", "itertools.pairwise"].contains n && vs[0]? == some (rawInt _)) = true then _ else _) Q E s
           rw [if_neg (by intro h; rw [hn, Bool.false_and] at h; cases h)]
           exact wpAny_pure hQ))

/-- the list at a, as it stands at each turn (a loop may append to it) -/
noncomputable def Itl (K : PySem.W.Frag) (a : Addr) : It :=
  ⟨fun i H => ∃ xs x, SqL K H a xs ∧ xs[i]? = some x, fun i H x H' => H' = H ∧ ∀ xs, SqL K H a xs → xs[i]? = some x, fun i H => ∃ xs, SqL K H a xs ∧ xs.length ≤ i⟩
noncomputable def Itt (K : PySem.W.Frag) (a : Addr) : It :=
  ⟨fun i H => ∃ xs x, SqT K H a xs ∧ xs[i]? = some x, fun i H x H' => H' = H ∧ ∀ xs, SqT K H a xs → xs[i]? = some x, fun i H => ∃ xs, SqT K H a xs ∧ xs.length ≤ i⟩
/-- lo, lo + 1, .. (n of them) -/
noncomputable def Itr (lo : Int) (n : Nat) : It := ⟨fun i _ => i < n, fun i H x H' => H' = H ∧ x = .int (lo + i), fun i _ => n ≤ i⟩
theorem turn_list {P : Program} {w : World} {K : PySem.W.Frag} {tg : Expr} (a it : Addr) : Turn P w K tg (Itl K a) [it] it (fun i h => h.IsListIter it a i) where
  mem := by simp
  obj := fun i h st b hb => by
    have e : b = it := by simpa using hb
    subst e
    obtain ⟨o, e, c, d⟩ := st
    exact ⟨o, e, fun v z => by rw [d] at z; cases z⟩
  keep := fun i h h' st k => st.at fun o e => k it (by simp) o e
  item := by
    intro X hP hw hK hc i pins s σ H E I hf st hg
    subst hP hw hK
    obtain ⟨xs, x, hq, hx⟩ := hg
    obtain ⟨its, rv, p, hz⟩ := I.list hq
    obtain ⟨u, hu, ru⟩ := rv.get hx
    obtain ⟨f0, f1, f2, f3, f4, f5⟩ := hf it (by simp)
    refine wpAny_pyNext_list_item st p.isList (x := u) (by simpa using hu) fun h' st' sb => ?_
    have I1 : Inv X pins σ H { s with heap := h' } := I.turned (t' := s.toks) (fun b o hb e => (sb.2 b hb).trans e) f0 f1 f3 f4 f5
    obtain ⟨o, e, c, d⟩ := id st'
    exact ⟨u, rfl, go_of (s := { s with heap := h' }) e c d (by decide) ⟨x, H, I1, ru, ⟨rfl, fun ys hy => by rw [I.list_inj hy hq]; exact hx⟩, st', fun b hb => (hf b hb).1⟩⟩
  done := by
    intro X hP hw hK hc i pins s σ H E I hf st hg
    subst hP hw hK
    obtain ⟨xs, hq, hx⟩ := hg
    obtain ⟨its, rv, p, hz⟩ := I.list hq
    obtain ⟨f0, f1, f2, f3, f4, f5⟩ := hf it (by simp)
    have hl := rv.length
    exact wpAny_pyNext_list_end (I.ok.hd hc) st p.isList (by simp; omega) fun h' eb => ⟨rfl, I.turned (t' := s.toks) (fun b o hb e => eb b o hb e) f0 f1 f3 f4 f5⟩
  self := fun _ _ _ _ _ st h => wpAny_pyIter_listiter st h
theorem turn_tuple {P : Program} {w : World} {K : PySem.W.Frag} {tg : Expr} (a it : Addr) : Turn P w K tg (Itt K a) [it] it (fun i h => h.IsTupleIter it a i) where
  mem := by simp
  obj := fun i h st b hb => by
    have e : b = it := by simpa using hb
    subst e
    obtain ⟨o, e, c, d⟩ := st
    exact ⟨o, e, fun v z => by rw [d] at z; cases z⟩
  keep := fun i h h' st k => st.at fun o e => k it (by simp) o e
  item := by
    intro X hP hw hK hc i pins s σ H E I hf st hg
    subst hP hw hK
    obtain ⟨xs, x, hq, hx⟩ := hg
    obtain ⟨its, rv, p, hz⟩ := I.tuple hq
    obtain ⟨u, hu, ru⟩ := rv.get hx
    obtain ⟨f0, f1, f2, f3, f4, f5⟩ := hf it (by simp)
    refine wpAny_pyNext_tuple_item st (show s.heap.IsTuple a its.toArray from p) (x := u) (by simpa using hu) fun h' st' sb => ?_
    have I1 : Inv X pins σ H { s with heap := h' } := I.turned (t' := s.toks) (fun b o hb e => (sb.2 b hb).trans e) f0 f1 f3 f4 f5
    obtain ⟨o, e, c, d⟩ := id st'
    exact ⟨u, rfl, go_of (s := { s with heap := h' }) e c d (by decide) ⟨x, H, I1, ru, ⟨rfl, fun ys hy => by rw [I.tuple_inj hy hq]; exact hx⟩, st', fun b hb => (hf b hb).1⟩⟩
  done := by
    intro X hP hw hK hc i pins s σ H E I hf st hg
    subst hP hw hK
    obtain ⟨xs, hq, hx⟩ := hg
    obtain ⟨its, rv, p, hz⟩ := I.tuple hq
    obtain ⟨f0, f1, f2, f3, f4, f5⟩ := hf it (by simp)
    have hl := rv.length
    exact wpAny_pyNext_tuple_end (I.ok.hd hc) st (show s.heap.IsTuple a its.toArray from p) (by simp; omega) fun h' eb => ⟨rfl, I.turned (t' := s.toks) (fun b o hb e => eb b o hb e) f0 f1 f3 f4 f5⟩
  self := fun _ _ _ _ _ st h => wpAny_pyIter_tupleiter st h
theorem turn_range {P : Program} {w : World} {K : PySem.W.Frag} {tg : Expr} (it : Addr) (lo : Int) (n : Nat) : Turn P w K tg (Itr lo n) [it] it (fun i h => IsRangeIter h it (lo + (i : Nat) * 1) ((n : Int) - (i : Nat)) 1) where
  mem := by simp
  obj := fun i h st b hb => by
    have e : b = it := by simpa using hb
    subst e
    exact ⟨_, st, fun v z => by
      have z' : Data.fields _ = Data.cell v := z
      cases z'⟩
  keep := fun i h h' st k => k it (by simp) _ st
  item := by
    intro X hP hw hK hc i pins s σ H E I hf st hg
    subst hP hw hK
    obtain ⟨f0, f1, f2, f3, f4, f5⟩ := hf it (by simp)
    have W := Walks.range (prog := X.prog) (w := X.w) (I.ok.hd hc) it lo 1 n
    refine W.item i s _ _ hg st fun v h' tk hv st' kk => ?_
    obtain ⟨t, rfl⟩ := hv
    have I1 : Inv X pins σ H { s with heap := h', toks := tk } := I.turned (fun b o hb e => kk b o (by simpa using hb) e) f0 f1 f3 f4 f5
    refine ⟨_, rfl, go_of (s := { s with heap := h', toks := tk }) (n := "range_iterator") st' rfl rfl (by decide) ⟨.int (lo + i), H, I1, ⟨t, ?_⟩, ⟨rfl, rfl⟩, st', fun b hb => (hf b hb).1⟩⟩
    rw [Int.mul_one]
  done := by
    intro X hP hw hK hc i pins s σ H E I hf st hg
    subst hP hw hK
    obtain ⟨f0, f1, f2, f3, f4, f5⟩ := hf it (by simp)
    exact wpAny_pyNext_range_end (I.ok.hd hc) st (by have : n ≤ i := hg; omega) fun h' eb => ⟨rfl, I.turned (t' := s.toks) (fun b o hb e => eb b o hb e) f0 f1 f3 f4 f5⟩
  self := fun _ _ _ _ _ st h => wpAny_pyIter_rangeiter st h
end L2

namespace L2
open PySem PySem.Spec PyProof.Rows
section
variable {X : Cx} {tg : Expr}
noncomputable def iList (K : PySem.W.Frag) (tl : TE) : TI := fun σ H R => tl σ H fun x H1 => ∃ a, x = .ref a ∧ (∃ xs, SqL K H1 a xs) ∧ R (Itl K a) H1
noncomputable def iTup (K : PySem.W.Frag) (tl : TE) : TI := fun σ H R => tl σ H fun x H1 => ∃ a, x = .ref a ∧ (∃ xs, SqT K H1 a xs) ∧ R (Itt K a) H1
theorem pi_list {l : Expr} {tl : TE} (hl : PE X l tl) : PI X tg l (iList X.K tl) := by
  intro pins s σ H R I h
  refine thn (hl pins s σ H _ I h) fun v s1 ⟨x, H1, I1, r1, q1⟩ => ?_
  obtain ⟨a, e, ⟨xs, hq⟩, q⟩ := q1
  subst e
  cases r1
  obtain ⟨its, rv, p, hz⟩ := I1.list hq
  refine wpAny_pyIter_list p.isList ?_
  refine ⟨s1.heap.objs.size, [s1.heap.objs.size], _, _, H1, rfl, I1.kept (t' := s1.toks) fun b o e => Heap.get?_push_of_some _ e, turn_list a _, ⟨_, Heap.get?_push_size _ rfl, rfl, rfl⟩, fun b hb => ?_, q⟩
  have e : b = s1.heap.objs.size := by simpa using hb
  subst e
  exact I1.fpOk (Nat.le_refl _) (I1.hok.fresh (Nat.le_refl _))
theorem pi_tup {l : Expr} {tl : TE} (hl : PE X l tl) : PI X tg l (iTup X.K tl) := by
  intro pins s σ H R I h
  refine thn (hl pins s σ H _ I h) fun v s1 ⟨x, H1, I1, r1, q1⟩ => ?_
  obtain ⟨a, e, ⟨xs, hq⟩, q⟩ := q1
  subst e
  cases r1
  obtain ⟨its, rv, p, hz⟩ := I1.tuple hq
  refine wpAny_pyIter_tuple (show s1.heap.IsTuple a its.toArray from p) ?_
  refine ⟨s1.heap.objs.size, [s1.heap.objs.size], _, _, H1, rfl, I1.kept (t' := s1.toks) fun b o e => Heap.get?_push_of_some _ e, turn_tuple a _, ⟨_, Heap.get?_push_size _ rfl, rfl, rfl⟩, fun b hb => ?_, q⟩
  have e : b = s1.heap.objs.size := by simpa using hb
  subst e
  exact I1.fpOk (Nat.le_refl _) (I1.hok.fresh (Nat.le_refl _))
/-- a range object just made, walked -/
theorem range_it {pins : List (Addr × Obj)} {σ : St} {H : Hp} {s : Shared} {R : It → Hp → Prop} {E : Value → Shared → Prop} {lo hi : Int} {t u v : Tok} {tk : Nat} (I : Inv X pins σ H s) (h1 : -(2 ^ 62) ≤ lo) (h2 : lo < 2 ^ 62) (h3 : -(2 ^ 62) ≤ hi) (h4 : hi < 2 ^ 62)
    (q : R (Itr lo (hi - lo).toNat) H) : wpAny (model X.prog X.w) X.A (pyIter (.ref s.heap.objs.size)) (PIE X pins σ tg R) E { s with heap := s.heap.push { cls := .type "range", data := .fields #[.int lo t, .int hi u, .int 1 v] }, toks := tk } := by
  refine wpAny_pyIter_range (IsRange.new ..) (small_one h1 h2 h3 h4) ?_
  have I1 : Inv X pins σ H { s with heap := s.heap.push { cls := .type "range", data := .fields #[.int lo t, .int hi u, .int 1 v] }, toks := tk } := I.kept fun b o e => Heap.get?_push_of_some _ e
  refine ⟨(s.heap.push { cls := .type "range", data := .fields #[.int lo t, .int hi u, .int 1 v] }).objs.size, [(s.heap.push { cls := .type "range", data := .fields #[.int lo t, .int hi u, .int 1 v] }).objs.size], _, _, H, rfl,
    I1.kept (t' := tk) fun b o e => Heap.get?_push_of_some _ e, turn_range _ lo (hi - lo).toNat, ?_, fun b hb => ?_, q⟩
  · have e1 : lo + ((0 : Nat) : Int) * 1 = lo := by simp
    have e2 : (((hi - lo).toNat : Nat) : Int) - ((0 : Nat) : Int) = Builtin.Range.rangeSize lo hi 1 := by rw [rangeSize_one]; split <;> omega
    show IsRangeIter _ _ (lo + ((0 : Nat) : Int) * 1) ((((hi - lo).toNat : Nat) : Int) - ((0 : Nat) : Int)) 1
    rw [e1, e2]
    exact Heap.get?_push_size _ rfl
  · have e : b = (s.heap.push { cls := .type "range", data := .fields #[.int lo t, .int hi u, .int 1 v] }).objs.size := by simpa using hb
    subst e
    exact I1.fpOk (Nat.le_refl _) (I1.hok.fresh (Nat.le_refl _))
noncomputable def iRng1 (ta : TA) : TI := fun σ H R => ta σ H fun vs H1 => ∃ j : Int, vs = [.int j] ∧ -(2 ^ 62) ≤ j ∧ j < 2 ^ 62 ∧ R (Itr 0 j.toNat) H1
theorem pi_range1 {a : Expr} {ta : TA} {p pos : Pos} (hg : Gl X "range") (hm : X.mg "range" = none) (ha : PA X [a] ta) (hs : starEach [a] X.env = [(false, eval a X.env)] := by rfl) : PI X tg (.Call (.Name "range" p) [a] [] pos) (iRng1 ta) := by
  intro pins s σ H R I h
  refine Call_ (ld_blt I hg hm boot_range (PyProof.Rows.callWith_type1 (thn (ha pos pins s σ H _ I h) fun us s1 ⟨vs, H1, I1, r1, q1⟩ => ?_) hs rfl))
  obtain ⟨j, e, q1, q2, q⟩ := q1
  subst e
  cases r1 with
  | cons r rr =>
    cases rr
    obtain ⟨t, rfl⟩ := r
    exact call_range_1 (range_it I1 (by omega) (by omega) q1 q2 (by simpa using q))
/-! ### for -/
/-- W: the invariant by the turn and a measure; N: what the body is to reach -/
noncomputable def tFor (wi : TI) (g : TG) (tb : TS) : TS := fun D σ H => wi σ H fun J H1 => ∃ W : Nat → Nat → St → Hp → Prop, (∃ m, W 0 m σ H1) ∧ ∀ i m σ H, W i m σ H →
  (J.stop i H ∧ D.nx σ H) ∨ (J.go i H ∧ ∃ N : St → Hp → Prop, (∀ σ' H', N σ' H' → ∃ m', m' < m ∧ W (i + 1) m' σ' H') ∧ ∀ x H', J.yld i H x H' → g x σ H' fun σ2 H2 => tb { D with nx := N, ct := N, bk := D.nx } σ2 H2)
/-- the records at fp as they stand -/
noncomputable def pinsAt (fp : List Addr) (h : Heap) : List (Addr × Obj) := fp.filterMap fun b => (h.get? b).map fun o => (b, o)
theorem mem_pinsAt {fp : List Addr} {h : Heap} {b : Addr} {o : Obj} (hb : b ∈ fp) (e : h.get? b = some o) : (b, o) ∈ pinsAt fp h := List.mem_filterMap.mpr ⟨b, hb, by rw [e]; rfl⟩
theorem of_pinsAt {fp : List Addr} {h : Heap} {p : Addr × Obj} (hp : p ∈ pinsAt fp h) : p.1 ∈ fp ∧ h.get? p.1 = some p.2 := by
  obtain ⟨b, hb, e⟩ := List.mem_filterMap.mp hp
  cases q : h.get? b with
  | none => rw [q] at e; cases e
  | some o =>
    rw [q] at e
    have e' : (b, o) = p := Option.some.inj e
    subst e'
    exact ⟨hb, q⟩
theorem Inv.pinned {pins : List (Addr × Obj)} {σ : St} {H : Hp} {s : Shared} {fp : List Addr} (I : Inv X pins σ H s) (hf : ∀ b ∈ fp, FpOk X pins H b) (ho : ∀ b ∈ fp, ∃ o, s.heap.get? b = some o ∧ ∀ v, o.data ≠ .cell v) : Inv X (pins ++ pinsAt fp s.heap) σ H s :=
  I.pins_of fun p hp => (List.mem_append.mp hp).elim (fun z => I.pin p (List.mem_append_right _ z)) fun z => by
    obtain ⟨hb, e⟩ := of_pinsAt z
    obtain ⟨f0, f1, f2, _⟩ := hf p.1 hb
    obtain ⟨o, e', d⟩ := ho p.1 hb
    rw [e] at e'; cases e'
    exact ⟨e, f0, f1, f2, d⟩
theorem Inv.unpinned {pins pl : List (Addr × Obj)} {σ : St} {H : Hp} {s : Shared} (I : Inv X (pins ++ pl) σ H s) : Inv X pins σ H s := I.pins_of fun p hp => I.pin p (List.mem_append_right _ (List.mem_append_left _ hp))
theorem ps_for {iter : Expr} {body : List Stmt} {wi : TI} {g : TG} {tb : TS} {pos : Pos} (hp : PassesOwn (model X.prog X.w) X.A X.env X.xe) (hc : X.calm = true) (hi : PI X tg iter wi) (hg : PG X tg g) (hb : PSs X body tb)
    (hs : ∀ x, foldedSetIterable iter X.env x = pure x := by intro _; rfl) : PS X (.For tg iter body [] pos) (tFor wi g tb) := by
  intro pins s σ H D I h
  refine wpAny_For (thn (hi pins s σ H _ I h) fun v s1 h1 => thn h1 fun itv s2 h2 => ?_) hs
  obtain ⟨it, fp, tn, J, H2, e, I2, T, st2, f2, W, ⟨m0, w0⟩, turn⟩ := h2
  subst e
  -- what stays true of the iterator's objects through the loop
  have stat : ∀ {H' : Hp}, (∀ b ∈ fp, H' b = none) → ∀ b ∈ fp, FpOk X pins H' b := fun hn b hb => ⟨hn b hb, (f2 b hb).2⟩
  refine codeAny_forLoop_any (fun n s' => ∃ i σ' H', Inv X pins σ' H' s' ∧ tn i s'.heap ∧ (∀ b ∈ fp, H' b = none) ∧ W i n σ' H') ?_ m0 ⟨0, σ, H2, I2, st2, fun b hb => (f2 b hb).1, w0⟩
  rintro n s3 ⟨i, σ3, H3, I3, st3, fr3, w3⟩
  rcases turn i n σ3 H3 w3 with ⟨stop, qn⟩ | ⟨go, N, hN, step⟩
  · refine wpAny_passesOwn hp (thn (T.done X rfl rfl rfl hc i pins s3 σ3 H3 X.xe I3 (stat fr3) st3 stop) fun r s4 ⟨hr, I4⟩ => ?_)
    subst hr
    exact wpAny_execs_nil ⟨σ3, H3, I4, qn⟩
  · refine wpAny_passesOwn hp (thn (T.item X rfl rfl rfl hc i pins s3 σ3 H3 X.xe I3 (stat fr3) st3 go) fun r s4 ⟨u, hr, h4⟩ => ?_)
    subst hr
    refine wpAny_passesOwn hp (thn h4 fun _ s5 ⟨x, H5, I5, r5, y5, st5, fr5⟩ => ?_)
    have I5' := I5.pinned (stat fr5) (T.obj _ _ st5)
    refine wpAny_passesOwn hp (thn (hg _ s5 σ3 H5 x u _ I5' r5 (step x H5 y5)) fun _ s6 ⟨σ6, H6, I6, q6⟩ => ?_)
    refine wpAny_passesOwn hp (thn (hb _ s6 σ6 H6 _ I6 q6) fun f s7 q7 => ?_)
    have again : ∀ {σ7 : St} {H7 : Hp}, Inv X (pins ++ pinsAt fp s5.heap) σ7 H7 s7 → N σ7 H7 → ∃ m, m < n ∧ ∃ i σ' H', Inv X pins σ' H' s7 ∧ tn i s7.heap ∧ (∀ b ∈ fp, H' b = none) ∧ W i m σ' H' := fun {σ7 H7} I7 n7 => by
      obtain ⟨m', hm, w7⟩ := hN σ7 H7 n7
      refine ⟨m', hm, i + 1, σ7, H7, I7.unpinned, T.keep _ _ _ st5 fun b hb o e => (I7.pin (b, o) (List.mem_append_right _ (List.mem_append_right _ (mem_pinsAt hb e)))).1, fun b hb => ?_, w7⟩
      obtain ⟨o, e, d⟩ := T.obj _ _ st5 b hb
      exact (I7.pin (b, o) (List.mem_append_right _ (List.mem_append_right _ (mem_pinsAt hb e)))).2.1
    cases f with
    | next => obtain ⟨σ7, H7, I7, n7⟩ := q7; exact again I7 n7
    | cont => obtain ⟨σ7, H7, I7, n7⟩ := q7; exact again I7 n7
    | brk => obtain ⟨σ7, H7, I7, q7⟩ := q7; exact ⟨σ7, H7, I7.unpinned, q7⟩
    | ret v => obtain ⟨x7, σ7, H7, I7, r7, q7⟩ := q7; exact ⟨x7, σ7, H7, I7.unpinned, r7, q7⟩
end

/-! ### the forms one uses -/
/-- over a list that the body leaves as it is -/
theorem for_list {K : PySem.W.Frag} {a : Addr} {xs : List V} {g : TG} {tb : TS} {D : Ends} {σ : St} {H : Hp} (Pv : Nat → St → Hp → Prop) (h0 : Pv 0 σ H) (hl : ∀ i σ H, i ≤ xs.length → Pv i σ H → SqL K H a xs)
    (hs : ∀ i x σ H, xs[i]? = some x → Pv i σ H → g x σ H fun σ2 H2 => tb { D with nx := Pv (i + 1), ct := Pv (i + 1), bk := D.nx } σ2 H2) (hd : ∀ σ H, Pv xs.length σ H → D.nx σ H) :
    ∃ W : Nat → Nat → St → Hp → Prop, (∃ m, W 0 m σ H) ∧ ∀ i m σ H, W i m σ H →
      ((Itl K a).stop i H ∧ D.nx σ H) ∨ ((Itl K a).go i H ∧ ∃ N : St → Hp → Prop, (∀ σ' H', N σ' H' → ∃ m', m' < m ∧ W (i + 1) m' σ' H') ∧ ∀ x H', (Itl K a).yld i H x H' → g x σ H' fun σ2 H2 => tb { D with nx := N, ct := N, bk := D.nx } σ2 H2) := by
  refine ⟨fun i m σ H => m = xs.length - i ∧ i ≤ xs.length ∧ Pv i σ H, ⟨xs.length, by simp, Nat.zero_le _, h0⟩, ?_⟩
  rintro i m σ H ⟨rfl, hi, p⟩
  have q := hl i σ H hi p
  by_cases hlt : i < xs.length
  · refine .inr ⟨⟨xs, xs[i], q, by simp [hlt]⟩, Pv (i + 1), fun σ' H' p' => ⟨xs.length - (i + 1), by omega, rfl, hlt, p'⟩, fun x H' y => ?_⟩
    obtain ⟨e, y⟩ := y
    subst e
    exact hs i x σ _ (y xs q) p
  · have e : i = xs.length := by omega
    subst e
    exact .inl ⟨⟨xs, q, Nat.le_refl _⟩, hd σ H p⟩
theorem for_tup {K : PySem.W.Frag} {a : Addr} {xs : List V} {g : TG} {tb : TS} {D : Ends} {σ : St} {H : Hp} (Pv : Nat → St → Hp → Prop) (h0 : Pv 0 σ H) (hl : ∀ i σ H, i ≤ xs.length → Pv i σ H → SqT K H a xs)
    (hs : ∀ i x σ H, xs[i]? = some x → Pv i σ H → g x σ H fun σ2 H2 => tb { D with nx := Pv (i + 1), ct := Pv (i + 1), bk := D.nx } σ2 H2) (hd : ∀ σ H, Pv xs.length σ H → D.nx σ H) :
    ∃ W : Nat → Nat → St → Hp → Prop, (∃ m, W 0 m σ H) ∧ ∀ i m σ H, W i m σ H →
      ((Itt K a).stop i H ∧ D.nx σ H) ∨ ((Itt K a).go i H ∧ ∃ N : St → Hp → Prop, (∀ σ' H', N σ' H' → ∃ m', m' < m ∧ W (i + 1) m' σ' H') ∧ ∀ x H', (Itt K a).yld i H x H' → g x σ H' fun σ2 H2 => tb { D with nx := N, ct := N, bk := D.nx } σ2 H2) := by
  refine ⟨fun i m σ H => m = xs.length - i ∧ i ≤ xs.length ∧ Pv i σ H, ⟨xs.length, by simp, Nat.zero_le _, h0⟩, ?_⟩
  rintro i m σ H ⟨rfl, hi, p⟩
  have q := hl i σ H hi p
  by_cases hlt : i < xs.length
  · refine .inr ⟨⟨xs, xs[i], q, by simp [hlt]⟩, Pv (i + 1), fun σ' H' p' => ⟨xs.length - (i + 1), by omega, rfl, hlt, p'⟩, fun x H' y => ?_⟩
    obtain ⟨e, y⟩ := y
    subst e
    exact hs i x σ _ (y xs q) p
  · have e : i = xs.length := by omega
    subst e
    exact .inl ⟨⟨xs, q, Nat.le_refl _⟩, hd σ H p⟩
theorem for_range {lo : Int} {n : Nat} {g : TG} {tb : TS} {D : Ends} {σ : St} {H : Hp} (Pv : Nat → St → Hp → Prop) (h0 : Pv 0 σ H)
    (hs : ∀ i σ H, i < n → Pv i σ H → g (.int (lo + i)) σ H fun σ2 H2 => tb { D with nx := Pv (i + 1), ct := Pv (i + 1), bk := D.nx } σ2 H2) (hd : ∀ σ H, Pv n σ H → D.nx σ H) :
    ∃ W : Nat → Nat → St → Hp → Prop, (∃ m, W 0 m σ H) ∧ ∀ i m σ H, W i m σ H →
      ((Itr lo n).stop i H ∧ D.nx σ H) ∨ ((Itr lo n).go i H ∧ ∃ N : St → Hp → Prop, (∀ σ' H', N σ' H' → ∃ m', m' < m ∧ W (i + 1) m' σ' H') ∧ ∀ x H', (Itr lo n).yld i H x H' → g x σ H' fun σ2 H2 => tb { D with nx := N, ct := N, bk := D.nx } σ2 H2) := by
  refine ⟨fun i m σ H => m = n - i ∧ i ≤ n ∧ Pv i σ H, ⟨n, by simp, Nat.zero_le _, h0⟩, ?_⟩
  rintro i m σ H ⟨rfl, hi, p⟩
  by_cases hlt : i < n
  · refine .inr ⟨hlt, Pv (i + 1), fun σ' H' p' => ⟨n - (i + 1), by omega, rfl, hlt, p'⟩, fun x H' y => ?_⟩
    obtain ⟨e, y⟩ := y
    subst e y
    exact hs i σ _ hlt p
  · have e : i = n := by omega
    subst e
    exact .inl ⟨Nat.le_refl _, hd σ H p⟩
end L2

namespace L2
open PySem PySem.Spec PyProof.Rows

noncomputable abbrev R2 := V → V → Hp → VK → Prop
/-- a two-place operation on values: f is binaryOp op, inplaceOp op or compareOp op -/
noncomputable def OpR (X : Cx) (f : Value → Value → Sem Value) (r : R2) : Prop :=
  ∀ (pins : List (Addr × Obj)) (s : Shared) (σ : St) (H : Hp) (x y : V) (v u : Value) (Q : VK), Inv X pins σ H s → RelV x v → RelV y u → r x y H Q →
    wpAny (model X.prog X.w) X.A (f v u) (EP X pins σ Q) X.xe s
/-- a one-place operation -/
noncomputable def UnR (X : Cx) (f : Value → Sem Value) (r : V → Hp → VK → Prop) : Prop :=
  ∀ (pins : List (Addr × Obj)) (s : Shared) (σ : St) (H : Hp) (x : V) (v : Value) (Q : VK), Inv X pins σ H s → RelV x v → r x H Q →
    wpAny (model X.prog X.w) X.A (f v) (EP X pins σ Q) X.xe s
/-- a call of a value that is known (a builtin, a type) with values -/
noncomputable def CallR (X : Cx) (f : Value) (r : List V → Hp → VK → Prop) : Prop :=
  ∀ (pins : List (Addr × Obj)) (s : Shared) (σ : St) (H : Hp) (xs : List V) (us : List Value) (Q : VK), Inv X pins σ H s → Vals xs us → r xs H Q →
    wpAny (model X.prog X.w) X.A (call f us) (EP X pins σ Q) X.xe s
noncomputable def tOp (r : R2) (ta tb : TE) : TE := fun σ H Q => ta σ H fun x H1 => tb σ H1 fun y H2 => r x y H2 Q
noncomputable def tUn (r : V → Hp → VK → Prop) (ta : TE) : TE := fun σ H Q => ta σ H fun x H1 => r x H1 Q
/-- ints in, under C, and a value out -/
noncomputable def rI (C : Int → Int → Prop) (g : Int → Int → V) : R2 := fun x y H Q => ∃ i j, x = .int i ∧ y = .int j ∧ C i j ∧ Q (g i j) H
noncomputable def rI0 (g : Int → Int → V) : R2 := fun x y H Q => ∃ i j, x = .int i ∧ y = .int j ∧ Q (g i j) H
noncomputable def rU (g : Int → V) : V → Hp → VK → Prop := fun x H Q => ∃ i, x = .int i ∧ Q (g i) H

section
variable {X : Cx} {a b c : Expr} {ta tb tc : TE} {pos : Pos}

theorem binT (ha : PE X a ta) (hb : PE X b tb) {pins : List (Addr × Obj)} {s : Shared} {σ : St} {H : Hp} {R : V → V → Hp → Prop} (I : Inv X pins σ H s)
    (h : ta σ H fun x H1 => tb σ H1 fun y H2 => R x y H2) {Q : Value → Shared → Prop} {f : Value → Value → Sem Value}
    (hf : ∀ v u s2 x y H2, Inv X pins σ H2 s2 → RelV x v → RelV y u → R x y H2 → wpAny (model X.prog X.w) X.A (f v u) Q X.xe s2) :
    wpAny (model X.prog X.w) X.A (eval a X.env) (fun v s₁ => wpAny (model X.prog X.w) X.A (eval b X.env) (fun u s₂ => wpAny (model X.prog X.w) X.A (f v u) Q X.xe s₂) X.xe s₁) X.xe s := by
  refine thn (ha pins s σ H _ I h) fun v s1 ⟨x, H1, I1, r1, q1⟩ => ?_
  refine thn (hb pins s1 σ H1 _ I1 q1) fun u s2 ⟨y, H2, I2, r2, q2⟩ => ?_
  exact hf v u s2 x y H2 I2 r1 r2 q2

theorem pe_op {op : Operator} {r : R2} (ho : OpR X (binaryOp op) r) (ha : PE X a ta) (hb : PE X b tb) : PE X (.BinOp a op b pos) (tOp r ta tb) := by
  intro pins s σ H Q I h
  exact wpAny_BinOp (binT ha hb I h fun v u s2 x y H2 I2 rx ry q => ho pins s2 σ H2 x y v u Q I2 rx ry q)
theorem pe_un {op : UnaryOp} {r : V → Hp → VK → Prop} (ho : UnR X (unaryOp op) r) (ha : PE X a ta) : PE X (.UnaryOp op a pos) (tUn r ta) := by
  intro pins s σ H Q I h
  exact UnaryOp_ (thn (ha pins s σ H _ I h) fun v s1 ⟨x, H1, I1, r1, q1⟩ => ho pins s1 σ H1 x v Q I1 r1 q1)
/-! ### ints -/
theorem opI {f : Value → Value → Sem Value} {C : Int → Int → Prop} {g : Int → Int → Int}
    (rule : ∀ (i j : Int) (t u : Tok) (s : Shared) (Q : Value → Shared → Prop) (E : Value → Shared → Prop), C i j → Q (.int (g i j) s.toks) { s with toks := s.toks + 1 } → wpAny (model X.prog X.w) X.A (f (.int i t) (.int j u)) Q E s) :
    OpR X f (rI C fun i j => .int (g i j)) := by
  intro pins s σ H x y v u Q I rx ry h
  obtain ⟨i, j, rfl, rfl, hc, q⟩ := h
  obtain ⟨t, rfl⟩ := rx
  obtain ⟨t', rfl⟩ := ry
  exact rule i j t t' s _ _ hc ⟨.int (g i j), H, I.tok _, ⟨_, rfl⟩, q⟩
theorem opI0 {f : Value → Value → Sem Value} {g : Int → Int → Int}
    (rule : ∀ (i j : Int) (t u : Tok) (s : Shared) (Q : Value → Shared → Prop) (E : Value → Shared → Prop), Q (.int (g i j) s.toks) { s with toks := s.toks + 1 } → wpAny (model X.prog X.w) X.A (f (.int i t) (.int j u)) Q E s) :
    OpR X f (rI0 fun i j => .int (g i j)) := by
  intro pins s σ H x y v u Q I rx ry h
  obtain ⟨i, j, rfl, rfl, q⟩ := h
  obtain ⟨t, rfl⟩ := rx
  obtain ⟨t', rfl⟩ := ry
  exact rule i j t t' s _ _ ⟨.int (g i j), H, I.tok _, ⟨_, rfl⟩, q⟩
theorem opB0 {f : Value → Value → Sem Value} {g : Int → Int → Bool}
    (rule : ∀ (i j : Int) (t u : Tok) (s : Shared) (Q : Value → Shared → Prop) (E : Value → Shared → Prop), Q (.bool (g i j)) s → wpAny (model X.prog X.w) X.A (f (.int i t) (.int j u)) Q E s) :
    OpR X f (rI0 fun i j => .bl (g i j)) := by
  intro pins s σ H x y v u Q I rx ry h
  obtain ⟨i, j, rfl, rfl, q⟩ := h
  obtain ⟨t, rfl⟩ := rx
  obtain ⟨t', rfl⟩ := ry
  exact rule i j t t' s _ _ ⟨.bl (g i j), H, I, rfl, q⟩

noncomputable def CPow (i j : Int) : Prop := 0 ≤ j ∧ j ≤ 1000000 ∧ i.natAbs < 2 ^ 64
noncomputable def CMul (i j : Int) : Prop := (-(2 ^ 64) < i ∧ i < 2 ^ 64) ∨ (-(2 ^ 64) < j ∧ j < 2 ^ 64)
theorem CMul.ok {i j : Int} (h : CMul i j) : IntMulOk i j := by
  rcases h with ⟨h1, h2⟩ | ⟨h1, h2⟩
  · exact .of_left (intBits_le_64 h1 h2)
  · exact .of_right (intBits_le_64 h1 h2)
theorem op_add : OpR X (binaryOp .Add) (rI0 fun i j => .int (i + j)) := opI0 fun _ _ _ _ _ _ _ q => add_int q
theorem op_sub : OpR X (binaryOp .Sub) (rI0 fun i j => .int (i - j)) := opI0 fun _ _ _ _ _ _ _ q => sub_int q
theorem op_mul : OpR X (binaryOp .Mult) (rI CMul fun i j => .int (i * j)) := opI fun _ _ _ _ _ _ _ hc q => mul_int q hc.ok
/-- % by a positive divisor of any size -/
theorem op_mod : OpR X (binaryOp .Mod) (rI (fun _ j => 0 < j) fun i j => .int (i % j)) := opI fun i j _ _ _ _ _ hc q => by
  have h1 : (0 : Int) < j := hc
  exact mod_int' (by omega) (by rw [Int.fmod_eq_emod_of_nonneg i (by omega)]; exact q)
theorem op_pow : OpR X (binaryOp .Pow) (rI CPow fun i j => .int (i ^ j.toNat)) := opI fun _ _ _ _ _ _ _ hc q => pow_int_small hc.1 hc.2.1 hc.2.2 q
theorem unI {f : Value → Sem Value} {g : Int → Int}
    (rule : ∀ (i : Int) (t : Tok) (s : Shared) (Q : Value → Shared → Prop) (E : Value → Shared → Prop), Q (.int (g i) s.toks) { s with toks := s.toks + 1 } → wpAny (model X.prog X.w) X.A (f (.int i t)) Q E s) :
    UnR X f (rU fun i => .int (g i)) := by
  intro pins s σ H x v Q I rx h
  obtain ⟨i, rfl, q⟩ := h
  obtain ⟨t, rfl⟩ := rx
  exact rule i t s _ _ ⟨.int (g i), H, I.tok _, ⟨_, rfl⟩, q⟩
theorem un_neg : UnR X (unaryOp .USub) (rU fun i => .int (-i)) := unI fun _ _ _ _ _ q => neg_int q
/-! ### bools among ints: n += (a < b) -/
end

/-! ### comparisons -/
/-- the scalars that == tells apart as data does -/
noncomputable def scal : V → V → Bool
  | .non, .non => true | .non, .int _ => true | .int _, .non => true | .non, .bl _ => true | .bl _, .non => true | .non, .str _ => true | .str _, .non => true
  | .int _, .int _ => true | .bl _, .bl _ => true | .str _, .str _ => true | .byt _, .byt _ => true
  | .int _, .str _ => true | .str _, .int _ => true | .bl _, .str _ => true | .str _, .bl _ => true
  | _, _ => false
noncomputable def rEq : R2 := fun x y H Q => scal x y = true ∧ Q (.bl (decide (x = y))) H
noncomputable def rNe : R2 := fun x y H Q => scal x y = true ∧ Q (.bl (!decide (x = y))) H

theorem dec_int {i j : Int} : decide (V.int i = V.int j) = (i == j) := by
  rw [Bool.eq_iff_iff]
  simp
theorem dec_bl {i j : Bool} : decide (V.bl i = V.bl j) = (i == j) := by
  rw [Bool.eq_iff_iff]
  simp
theorem dec_str {i j : Str} : decide (V.str i = V.str j) = (i == j) := by
  rw [Bool.eq_iff_iff]
  simp
theorem dec_byt {i j : Array UInt8} : decide (V.byt i = V.byt j) = (i.toList == j.toList) := by
  rw [Bool.eq_iff_iff]
  cases i
  cases j
  simp

section
variable {X : Cx} {a b c : Expr} {ta tb tc : TE} {pos : Pos}
theorem fin_bl {pins : List (Addr × Obj)} {σ : St} {H : Hp} {s : Shared} {Q : VK} {k k' : Bool} (I : Inv X pins σ H s) (q : Q (.bl k) H) (e : k = k') : EP X pins σ Q (.bool k') s := by
  subst e
  exact ⟨.bl k, H, I, rfl, q⟩
theorem op_eq : OpR X (compareOp .Eq) rEq := by
  intro pins s σ H x y v u Q I rx ry h
  obtain ⟨hs, q⟩ := h
  cases x with
  | non =>
    cases rx
    cases y with
    | non => cases ry; exact PySem.EqNone.eq_none_none (fin_bl I q (by simp))
    | bl j => cases ry; exact PySem.EqNone.eq_none_bool (fin_bl I q (by simp))
    | int j => obtain ⟨t', rfl⟩ := ry; exact PySem.EqNone.eq_none_int (fin_bl I q (by simp))
    | str j => obtain ⟨t', rfl⟩ := ry; exact PySem.EqNone.eq_none_str (fin_bl I q (by simp))
    | _ => exact absurd (show false = true from hs) Bool.false_ne_true
  | bl i =>
    cases rx
    cases y with
    | non => cases ry; exact PySem.EqNone.eq_bool_none (fin_bl I q (by simp))
    | bl j => cases ry; exact eq_bool (fin_bl I q dec_bl)
    | str j => obtain ⟨t', rfl⟩ := ry; exact PySem.EqMixed.eq_bool_str (fin_bl I q (by simp))
    | _ => exact absurd (show false = true from hs) Bool.false_ne_true
  | int i =>
    obtain ⟨t, rfl⟩ := rx
    cases y with
    | non => cases ry; exact PySem.EqNone.eq_int_none (fin_bl I q (by simp))
    | int j => obtain ⟨t', rfl⟩ := ry; exact eq_int (fin_bl I q dec_int)
    | str j => obtain ⟨t', rfl⟩ := ry; exact PySem.EqMixed.eq_int_str (fin_bl I q (by simp))
    | _ => exact absurd (show false = true from hs) Bool.false_ne_true
  | str i =>
    obtain ⟨t, rfl⟩ := rx
    cases y with
    | non => cases ry; exact PySem.EqNone.eq_str_none (fin_bl I q (by simp))
    | bl j => cases ry; exact PySem.EqMixed.eq_str_bool (fin_bl I q (by simp))
    | int j => obtain ⟨t', rfl⟩ := ry; exact PySem.EqMixed.eq_str_int (fin_bl I q (by simp))
    | str j => obtain ⟨t', rfl⟩ := ry; exact eq_str (fin_bl I q dec_str)
    | _ => exact absurd (show false = true from hs) Bool.false_ne_true
  | byt i =>
    obtain ⟨t, rfl⟩ := rx
    cases y with
    | byt j => obtain ⟨t', rfl⟩ := ry; exact PySem.W.eq_bytes (fin_bl I q dec_byt)
    | _ => exact absurd (show false = true from hs) Bool.false_ne_true
  | _ => cases y <;> exact absurd (show false = true from hs) Bool.false_ne_true
theorem op_ne : OpR X (compareOp .NotEq) rNe := by
  intro pins s σ H x y v u Q I rx ry h
  obtain ⟨hs, q⟩ := h
  cases x with
  | non =>
    cases rx
    cases y with
    | non => cases ry; exact PySem.EqNone.ne_none_none (fin_bl I q (by simp))
    | bl j => cases ry; exact PySem.EqNone.ne_none_bool (fin_bl I q (by simp))
    | int j => obtain ⟨t', rfl⟩ := ry; exact PySem.EqNone.ne_none_int (fin_bl I q (by simp))
    | str j => obtain ⟨t', rfl⟩ := ry; exact PySem.EqNone.ne_none_str (fin_bl I q (by simp))
    | _ => exact absurd (show false = true from hs) Bool.false_ne_true
  | bl i =>
    cases rx
    cases y with
    | non => cases ry; exact PySem.EqNone.ne_bool_none (fin_bl I q (by simp))
    | bl j => cases ry; exact ne_bool (fin_bl I q (congrArg not dec_bl))
    | str j => obtain ⟨t', rfl⟩ := ry; exact PySem.EqMixed.ne_bool_str (fin_bl I q (by simp))
    | _ => exact absurd (show false = true from hs) Bool.false_ne_true
  | int i =>
    obtain ⟨t, rfl⟩ := rx
    cases y with
    | non => cases ry; exact PySem.EqNone.ne_int_none (fin_bl I q (by simp))
    | int j => obtain ⟨t', rfl⟩ := ry; exact ne_int (fin_bl I q (congrArg not dec_int))
    | str j => obtain ⟨t', rfl⟩ := ry; exact PySem.EqMixed.ne_int_str (fin_bl I q (by simp))
    | _ => exact absurd (show false = true from hs) Bool.false_ne_true
  | str i =>
    obtain ⟨t, rfl⟩ := rx
    cases y with
    | non => cases ry; exact PySem.EqNone.ne_str_none (fin_bl I q (by simp))
    | bl j => cases ry; exact PySem.EqMixed.ne_str_bool (fin_bl I q (by simp))
    | int j => obtain ⟨t', rfl⟩ := ry; exact PySem.EqMixed.ne_str_int (fin_bl I q (by simp))
    | str j => obtain ⟨t', rfl⟩ := ry; exact ne_str (fin_bl I q (congrArg not dec_str))
    | _ => exact absurd (show false = true from hs) Bool.false_ne_true
  | byt i =>
    obtain ⟨t, rfl⟩ := rx
    cases y with
    | byt j => obtain ⟨t', rfl⟩ := ry; exact PySem.W.ne_bytes (fin_bl I q (congrArg not dec_byt))
    | _ => exact absurd (show false = true from hs) Bool.false_ne_true
  | _ => cases y <;> exact absurd (show false = true from hs) Bool.false_ne_true

theorem op_lt : OpR X (compareOp .Lt) (rI0 fun i j => .bl (decide (i < j))) := opB0 fun _ _ _ _ _ _ _ q => lt_int q
theorem op_le : OpR X (compareOp .LtE) (rI0 fun i j => .bl (decide (i ≤ j))) := opB0 fun _ _ _ _ _ _ _ q => le_int q
theorem op_gt : OpR X (compareOp .Gt) (rI0 fun i j => .bl (decide (j < i))) := opB0 fun _ _ _ _ _ _ _ q => gt_int q
/-- the one string within the other -/
theorem op_in_str : OpR X (compareOp .In) (fun x y H Q => ∃ i j, x = .str i ∧ y = .str j ∧ Q (.bl (!(Builtin.Str.occurrences j i 0 j.length 1).isEmpty)) H) := by
  intro pins s σ H x y v u Q I rx ry h
  obtain ⟨i, j, rfl, rfl, q⟩ := h
  obtain ⟨t, rfl⟩ := rx
  obtain ⟨t', rfl⟩ := ry
  exact in_str (fin_bl I q rfl)

/-- is None, is not None: the right side a value none -/
theorem op_isN : OpR X (compareOp .Is) (fun x y H Q => y = .non ∧ Q (.bl (decide (x = .non))) H) := by
  intro pins s σ H x y v u Q I rx ry h
  obtain ⟨rfl, q⟩ := h
  cases ry
  refine is_none_gen (fin_bl I q ?_)
  cases x <;> first
    | (cases rx; rfl)
    | (obtain ⟨t, rfl⟩ := rx; rfl)
theorem nomark (b : Expr) {op : CmpOp} (h : op ≠ .In := by decide) (h2 : op ≠ .NotIn := by decide) : behindInMarks op b = false := by
  have e1 : (op == CmpOp.In) = false := by cases op <;> first | rfl | exact absurd rfl h
  have e2 : (op == CmpOp.NotIn) = false := by cases op <;> first | rfl | exact absurd rfl h2
  cases b <;> simp [behindInMarks, e1, e2]
/-- a comparison as a value; hm: nomark b, or (for in, not in) by with_unfolding_all rfl -/
theorem pe_cmpR {op : CmpOp} {r : R2} (ho : OpR X (compareOp op) r) (ha : PE X a ta) (hb : PE X b tb) (hm : behindInMarks op b = false) : PE X (.Compare a [op] [b] pos) (tOp r ta tb) := by
  intro pins s σ H Q I h
  exact wpAny_Compare1 (binT ha hb I h fun v u s2 x y H2 I2 rx ry q => ho pins s2 σ H2 x y v u Q I2 rx ry q) hm
/-- a reading of a value as a test -/
noncomputable def tTest (t : TE) : TT := fun σ H Q => t σ H fun x H' => ∃ k, x = .bl k ∧ Q k H'
theorem pt_cmpR {op : CmpOp} {r : R2} (ho : OpR X (compareOp op) r) (ha : PE X a ta) (hb : PE X b tb) (hm : behindInMarks op b = false) : PT X (.Compare a [op] [b] pos) (tTest (tOp r ta tb)) := by
  intro pins s σ H Q I h
  refine wpAny_isTrue_Compare1 (thn (ha pins s σ H _ I h) fun v s1 ⟨x, H1, I1, r1, q1⟩ => thn (hb pins s1 σ H1 _ I1 q1) fun u s2 ⟨y, H2, I2, r2, q2⟩ =>
    thn (ho pins s2 σ H2 x y v u _ I2 r1 r2 q2) fun c s3 ⟨z, H3, I3, r3, k, e, q3⟩ => ?_) hm
  subst e
  cases r3
  exact wpAny_truthy_bool ⟨H3, I3, q3⟩
/-- a op1 b op2 c -/
noncomputable def tChain (r r' : R2) (ta tb tc : TE) : TE := fun σ H Q => ta σ H fun x H1 => tb σ H1 fun y H2 => r x y H2 fun z H3 => ∃ k, z = .bl k ∧
  (if k = true then tc σ H3 fun w' H4 => r' y w' H4 Q else Q (.bl false) H3)
theorem pt_chain {op op' : CmpOp} {r r' : R2} (ho : OpR X (compareOp op) r) (ho' : OpR X (compareOp op') r') (ha : PE X a ta) (hb : PE X b tb) (hc : PE X c tc)
    (hm : lastMarks [op, op'] [b, c] = false := by with_unfolding_all rfl) : PT X (.Compare a [op, op'] [b, c] pos) (tTest (tChain r r' ta tb tc)) := by
  intro pins s σ H Q I h
  refine isTrue_chain (thn (ha pins s σ H _ I h) fun v s1 ⟨x, H1, I1, r1, q1⟩ => test_link (thn (hb pins s1 σ H1 _ I1 q1) fun u s2 ⟨y, H2, I2, r2, q2⟩ =>
    thn (ho pins s2 σ H2 x y v u _ I2 r1 r2 q2) fun d s3 ⟨z, H3, I3, r3, k, e, q3⟩ => ?_)) hm
  subst e
  cases r3
  refine wpAny_truthy_bool ?_
  cases k with
  | false =>
    obtain ⟨k', e', q'⟩ := q3
    cases e'
    exact ite_ff ⟨H3, I3, q'⟩
  | true =>
    refine ite_tt (test_last (thn (hc pins s3 σ H3 _ I3 q3) fun w' s4 ⟨z', H4, I4, r4, q4⟩ => thn (ho' pins s4 σ H4 y z' u w' _ I4 r2 r4 q4) fun d' s5 ⟨z2, H5, I5, r5, k2, e2, q5⟩ => ?_))
    subst e2
    cases r5
    exact wpAny_truthy_bool ⟨H5, I5, q5⟩

/-! ### truth -/
theorem line63 : (sizeLine : Nat) < 2 ^ 63 := by rw [sizeLine_eq]; decide
/-! ### strs and bytes -/
theorem op_add_str : OpR X (binaryOp .Add) (fun x y H Q => ∃ i j, x = .str i ∧ y = .str j ∧ i.length + j.length ≤ sizeLine ∧ Q (.str (i ++ j)) H) := by
  intro pins s σ H x y v u Q I rx ry h
  obtain ⟨i, j, rfl, rfl, hz, q⟩ := h
  obtain ⟨t, rfl⟩ := rx
  obtain ⟨t', rfl⟩ := ry
  exact add_str (fun t' tk => ⟨.str (i ++ j), H, I.tok _, ⟨_, rfl⟩, q⟩) hz
/-! ### scalar builtins, by CallR -/
theorem vals1 {x : V} {us : List Value} (r : Vals [x] us) : ∃ u, us = [u] ∧ RelV x u := by
  cases r with
  | cons r1 r2 => cases r2; exact ⟨_, rfl, r1⟩
theorem call_abs : CallR X (.builtin "abs") (fun xs H Q => ∃ i, xs = [.int i] ∧ Q (.int (if i < 0 then -i else i)) H) := by
  intro pins s σ H xs us Q I r h
  obtain ⟨i, rfl, q⟩ := h
  obtain ⟨u, rfl, t, rfl⟩ := vals1 r
  exact call_abs_int fun u tk => ⟨.int (if i < 0 then -i else i), H, I.tok _, ⟨_, rfl⟩, q⟩
theorem call_str_int : CallR X (.type "str") (fun xs H Q => ∃ i, xs = [.int i] ∧ i.natAbs.log2 < 1920 ∧ Q (.str (toString i)) H) := by
  intro pins s σ H xs us Q I r h
  obtain ⟨i, rfl, hz, q⟩ := h
  obtain ⟨u, rfl, t, rfl⟩ := vals1 r
  exact PySem.P.str_of_int hz ⟨.str _, H, I.tok _, ⟨_, rfl⟩, q⟩
/-- len of a str, a bytes, a list, a tuple -/
noncomputable def LenV (K : PySem.W.Frag) (x : V) (H : Hp) (n : Nat) : Prop :=
  match x with
  | .str y => y.length ≤ sizeLine ∧ n = y.length
  | .byt y => y.size ≤ sizeLine ∧ n = y.size
  | .ref p => (∃ xs, SqL K H p xs ∧ n = xs.length) ∨ ∃ xs, SqT K H p xs ∧ n = xs.length
  | _ => False
theorem call_len : CallR X (.builtin "len") (fun xs H Q => ∃ x n, xs = [x] ∧ LenV X.K x H n ∧ Q (.int n) H) := by
  intro pins s σ H xs us Q I r h
  obtain ⟨x, n, rfl, e, q⟩ := h
  obtain ⟨u, rfl, rx⟩ := vals1 r
  have hl := line63
  have hs : sizeLine = 16777216 := sizeLine_eq
  cases x with
  | str y =>
    obtain ⟨t, rfl⟩ := rx
    obtain ⟨hy, e'⟩ : y.length ≤ sizeLine ∧ n = y.length := e
    subst e'
    exact len_str (by omega) ⟨.int _, H, I.tok _, ⟨_, rfl⟩, q⟩
  | byt y =>
    obtain ⟨t, rfl⟩ := rx
    obtain ⟨hy, e'⟩ : y.size ≤ sizeLine ∧ n = y.size := e
    subst e'
    exact PySem.W.len_bytes (by omega) ⟨.int _, H, I.tok _, ⟨_, rfl⟩, q⟩
  | ref p =>
    cases rx
    have e' : (∃ xs, SqL X.K H p xs ∧ n = xs.length) ∨ ∃ xs, SqT X.K H p xs ∧ n = xs.length := e
    rcases e' with ⟨xs, hx, e'⟩ | ⟨xs, hx, e'⟩
    · subst e'
      obtain ⟨its, r', pl, hz⟩ := I.list hx
      have hlen := r'.length
      exact Calls.call_len_list pl.isList (by simp only [List.size_toArray]; omega) ⟨.int xs.length, H, I.tok _, ⟨_, by simp only [List.size_toArray]; rw [hlen]⟩, q⟩
    · subst e'
      obtain ⟨its, r', pl, hz⟩ := I.tuple hx
      have hlen := r'.length
      exact len_tuple pl (by simp only [List.size_toArray]; omega) ⟨.int xs.length, H, I.tok _, ⟨_, by simp only [List.size_toArray]; rw [hlen]⟩, q⟩
  | _ => exact (show False from e).elim
end
end L2

namespace L2
open PySem PySem.Spec PyProof.Rows

/-! ### an instance, its attributes a map -/
structure ObjM (h : Heap) (x dx C : Addr) (mA : Str → Option Value) : Prop where
  obj : h.get? x = some (PySem.W.instObj C dx)
  ns : h.Ns1 dx mA
  ne : dx ≠ x

theorem lookIn_ns {h : Heap} {dx : Addr} {mA : Str → Option Value} (n : h.Ns1 dx mA) : ∃ od, h.get? dx = some od ∧ ∀ name, PySem.W.lookIn name od = some (mA name) := by
  obtain ⟨o, es, ep, ho, hd, hk, _, hm⟩ := n
  refine ⟨o, ho, fun name => ?_⟩
  have e := hm name
  unfold nsFind findBy at e
  rw [← Array.find?_toList] at e
  unfold PySem.W.lookIn
  rw [hd]
  dsimp only
  split
  · rename_i y q
    rw [q] at e
    exact congrArg some e
  · rename_i q
    rw [q] at e
    have a : es.toList.any (·.refKey) = false := by
      rw [List.any_eq_false]
      intro y hy
      obtain ⟨z, t, hkey⟩ := hk y (Array.mem_toList_iff.mp hy)
      simp [DictEntry.refKey, hkey]
    have a' : ¬ es.toList.any (·.refKey) = true := by rw [a]; exact Bool.false_ne_true
    rw [if_neg a']
    exact congrArg some e

theorem ObjM.look {h : Heap} {x dx C : Addr} {mA : Str → Option Value} (I : ObjM h x dx C mA) : ∃ od, PySem.W.InstAt h x (PySem.W.instObj C dx) C (some od) ∧ ∀ name, PySem.W.lookIn name od = some (mA name) :=
  let ⟨od, ho, hl⟩ := lookIn_ns I.ns
  ⟨od, ⟨I.obj, rfl, rfl, ho⟩, hl⟩

section
variable {prog : Program} {w : World} {A : Around} {E : Value → Shared → Prop} {s : Shared} {K : PySem.W.Frag} {x dx C f : Addr} {mA : Str → Option Value} {name : Str} {v : Value}

end

/-! ### the attributes as a list of pairs -/
section
variable {P : Program} {w : World} {H H' : Hp} {h h' : Heap} {a C dx : Addr} {fs fs' : List (Str × V)}
theorem ins_get (hok : HOk P w H h) (e : H a = some (.ins C dx fs)) : ∃ mA, ObjM h a dx C mA ∧ (∀ f, RelO (fs.lookup f) (mA f)) ∧ PySem.Within mA (fs.map (·.1)) ∧ fs.length ≤ 1000 ∧ H dx = some (.own a) := by
  obtain ⟨d, z, ne, ob, mA, n, r, q⟩ := (show ObjOk P w H h a (.ins C dx fs) from hok a _ e)
  exact ⟨mA, ⟨ob, n, ne⟩, r, q, z, d⟩
end

/-! ### what of the text a class must have -/
structure Cls (K : PySem.W.Frag) (C : Addr) : Prop where
  pg : PySem.W.plainGet K C Str.empty = true
  hd : PySem.W.hasDictIn K C = true
  po : PySem.W.plainOver K C = true
  sa : PySem.W.findIn K (.ref C) "__setattr__" = some (some (.builtin "object.__setattr__"))
theorem Cls.get {K : PySem.W.Frag} {C : Addr} (c : Cls K C) (f : Str) : PySem.W.plainGet K C f = true := c.pg
section
variable {X : Cx} {pins : List (Addr × Obj)} {σ : St} {H : Hp} {s : Shared} {a C dx : Addr} {fs : List (Str × V)} {f : Str} {v : V} {A : Around} {E : Value → Shared → Prop}

end

/-! ### readings and rules -/
section
variable {X : Cx} {o e value : Expr} {f : Str} {pos pos' tpos : Pos} {ta tv : TE}
end

/-! ### isinstance -/
section
variable {X : Cx} {pins : List (Addr × Obj)} {σ : St} {H : Hp} {s : Shared} {A : Around} {E : Value → Shared → Prop} {Q : Value → Shared → Prop} {c : Value} {b : Bool}
/-- the type of a value, as the fragment's deciders take it; for an instance its class -/
inductive TyOf (K : PySem.W.Frag) (H : Hp) : V → Value → Prop where
  | non : TyOf K H .non (.type "NoneType")
  | bl (x : Bool) : TyOf K H (.bl x) (.type "bool")
  | int (i : Int) : TyOf K H (.int i) (.type "int")
  | str (x : Str) : TyOf K H (.str x) (.type "str")
  | flt (x : UInt64) : TyOf K H (.flt x) (.type "float")
  | lst {a : Addr} {xs : List V} (e : H a = some (.lst xs)) : TyOf K H (.ref a) (.type "list")
  | frz {a : Addr} {o : Obj} {xs : List V} (e : H a = some (.frz o (.lst xs))) : TyOf K H (.ref a) (.type "list")
  | tup {a : Addr} {xs : List V} (e : H a = some (.tup xs)) : TyOf K H (.ref a) (.type "tuple")
  | dK {a : Addr} {kvs : List (Key × V)} (e : H a = some (.dK kvs)) : TyOf K H (.ref a) (.type "dict")
  | dT {a : Addr} {kvs : List (List Key × V)} (e : H a = some (.dT kvs)) : TyOf K H (.ref a) (.type "dict")
  | ins {a C dx : Addr} {fs : List (Str × V)} (e : H a = some (.ins C dx fs)) (cl : Cls K C) (ha : PySem.W.findIn K (.ref C) "__class__" = some (some (.builtin "object.__class__")))
      (hn : PySem.W.specialIn K (.builtin "object.__class__") "__get__" = some (some (.builtin "getset_descriptor.__get__"))) (htk : PySem.W.takesIn K (.builtin "object.__class__") = some true)
      (hm : PySem.W.mroIn K C (.type "object") = some true) : TyOf K H (.ref a) (.ref C)
/-- isinstance(x, c) for one class c, a built-in or an own one: kitOne's answer -/
theorem isinst_ok {x : V} {u t : Value} (I : Inv X pins σ H s) (rx : RelV x u) (ty : TyOf X.K H x t) (e : PySem.W.kitOne X.K t c = some b) (h : ∀ tk, Q (.bool b) { s with toks := tk }) :
    wpAny (model X.prog X.w) A (call (.builtin "isinstance") [u, c]) Q E s := by
  cases ty with
  | non => cases (show u = Value.none from rx); exact PySem.W.kia_one PySem.W.kitx_none I.kIn True.intro e (fun z => nomatch z) h
  | bl y => cases (show u = Value.bool y from rx); exact PySem.W.kia_one PySem.W.kitx_bool I.kIn True.intro e (fun z => nomatch z) h
  | int i => obtain ⟨t, q⟩ := (show ∃ t, u = Value.int i t from rx); cases q; exact PySem.W.kia_one PySem.W.kitx_int I.kIn True.intro e (fun z => nomatch z) h
  | str y => obtain ⟨t, q⟩ := (show ∃ t, u = Value.str y t from rx); cases q; exact PySem.W.kia_one PySem.W.kitx_str I.kIn True.intro e (fun z => nomatch z) h
  | flt y => obtain ⟨t, q⟩ := (show ∃ t, u = Value.float y t from rx); cases q; exact PySem.W.kia_one PySem.W.kitx_float I.kIn True.intro e (fun z => nomatch z) h
  | @lst a xs ea =>
    cases (show u = Value.ref a from rx)
    obtain ⟨_, _, n, _, h1⟩ := (show ObjOk X.prog X.w H s.heap a (.lst xs) from I.hok a _ ea)
    exact PySem.W.kia_one PySem.W.kitx_list I.kIn ⟨_, h1, rfl⟩ e (fun z => nomatch z) h
  | @frz a ob xs ea =>
    cases (show u = Value.ref a from rx)
    obtain ⟨_, _, _, n, _, h1⟩ := (show ObjOk X.prog X.w H s.heap a (.frz ob (.lst xs)) from I.hok a _ ea)
    exact PySem.W.kia_one PySem.W.kitx_list I.kIn ⟨_, h1, rfl⟩ e (fun z => nomatch z) h
  | @tup a xs ea =>
    cases (show u = Value.ref a from rx)
    obtain ⟨_, _, _, p⟩ := (show ObjOk X.prog X.w H s.heap a (.tup xs) from I.hok a _ ea)
    obtain ⟨o, h1, h2, _⟩ := p
    exact PySem.W.kia_one PySem.W.kitx_tuple I.kIn ⟨o, h1, h2⟩ e (fun z => nomatch z) h
  | @dK a kvs ea =>
    cases (show u = Value.ref a from rx)
    obtain ⟨_, _, vs, _, p⟩ := (show ObjOk X.prog X.w H s.heap a (.dK kvs) from I.hok a _ ea)
    obtain ⟨o, es, ep, h1, h2, _⟩ := p
    exact PySem.W.kia_one PySem.W.kitx_dict I.kIn ⟨o, h1, h2.1⟩ e (fun z => nomatch z) h
  | @dT a kvs ea =>
    cases (show u = Value.ref a from rx)
    obtain ⟨_, _, xs, _, o, es, ep, h1, h2, _⟩ := (show ObjOk X.prog X.w H s.heap a (.dT kvs) from I.hok a _ ea)
    exact PySem.W.kia_one PySem.W.kitx_dict I.kIn ⟨o, h1, h2.1⟩ e (fun z => nomatch z) h
  | @ins a C dx fs ea cl ha hn htk hm =>
    cases (show u = Value.ref a from rx)
    obtain ⟨mA, O, _⟩ := ins_get I.hok ea
    obtain ⟨od, J, _⟩ := O.look
    exact PySem.W.kia_one (PySem.W.kitx_own (cl.get _) cl.hd ha hn htk hm) I.kIn J e (fun z => nomatch z) h
end
end L2

namespace L2
open PySem PySem.Spec PyProof.Rows

/-! ### room -/
structure Room (k : Nat) (A : Around) : Prop where
  hd : A.handled = none
  dp : A.depth + 3 * k + 5 < recursionLimit
  un : A.units + 16 * k + 200 < cLine
theorem Room.mono {j k : Nat} {A : Around} (r : Room k A) (h : j ≤ k) : Room j A := ⟨r.hd, by have := r.dp; omega, by have := r.un; omega⟩
theorem Room.deeper {k : Nat} {A : Around} (r : Room (k + 1) A) (env : Env) : Room k (A.deeper env) :=
  ⟨r.hd, by have := r.dp; show A.depth + 1 + 3 * k + 5 < _; omega, by have := r.un; show A.units + 3 + 16 * k + 200 < _; omega⟩
theorem Room.depth {k : Nat} {A : Around} (r : Room k A) : A.depth < recursionLimit := by have := r.dp; omega
theorem Room.units {k : Nat} {A : Around} (r : Room k A) : A.units + 64 < cLine := by have := r.un; omega
/-! ### argument lists and displays -/
noncomputable def tNil : TA := fun _ H Q => Q [] H
noncomputable def tCons (ta : TE) (tr : TA) : TA := fun σ H Q => ta σ H fun x H1 => tr σ H1 fun xs H2 => Q (x :: xs) H2
section
variable {X : Cx} {e : Expr} {es : List Expr} {te : TE} {t : TA} {pos : Pos}
theorem pa_nil : PA X [] tNil := fun _ _ _ _ H Q I h => Calls.spliced_nil ⟨[], H, I, .nil, h⟩
theorem pa_cons (ha : PE X e te) (hr : PA X es t) (hs : starEach (e :: es) X.env = (false, eval e X.env) :: starEach es X.env := by rfl) : PA X (e :: es) (tCons te t) := by
  intro pos pins s σ H Q I h
  rw [hs]
  show wpAny _ _ (spliced ((false, eval e X.env) :: backTo pos (starEach es X.env))) _ _ s
  refine Calls.spliced_cons (thn (ha pins s σ H _ I h) fun u s1 ⟨x, H1, I1, r1, q1⟩ => ?_)
  exact thn (hr pos pins s1 σ H1 _ I1 q1) fun us s2 ⟨xs, H2, I2, r2, q2⟩ => ⟨x :: xs, H2, I2, .cons r1 r2, q2⟩

/-- a tuple, a list of written items -/
noncomputable def tTup (t : TA) : TE := fun σ H Q => t σ H fun xs H1 => xs.length ≤ sizeLine ∧ ∀ p, H1 p = none → Q (.ref p) (upd H1 p (.tup xs))
noncomputable def tLst (t : TA) : TE := fun σ H Q => t σ H fun xs H1 => xs.length ≤ sizeLine ∧ ∀ p, H1 p = none → Q (.ref p) (upd H1 p (.lst xs))
theorem pe_tup {x1} (h : PA X es t) : PE X (.Tuple es x1 pos) (tTup t) := by
  intro pins s σ H Q I hq
  refine wpAny_Tuple_spliced (thn (h pos pins s σ H _ I hq) fun us s1 ⟨xs, H1, I1, r, z, q⟩ => ⟨by rw [← r.length]; exact z, ?_⟩)
  have hf : H1 s1.heap.objs.size = none := I1.hok.fresh (Nat.le_refl _)
  refine ⟨.ref s1.heap.objs.size, upd H1 s1.heap.objs.size (.tup xs), I1.laid (t' := s1.toks) (fun b u e => Heap.get?_push_of_some _ e) (Nat.le_refl _) ?_, rfl, q _ hf⟩
  exact ⟨z, us, r, ⟨_, Heap.get?_push_size _ rfl, rfl, _, rfl⟩⟩
theorem pe_lst (h : PA X es t) : PE X (.List es pos) (tLst t) := by
  intro pins s σ H Q I hq
  refine wpAny_List_spliced (thn (h pos pins s σ H _ I hq) fun us s1 ⟨xs, H1, I1, r, z, q⟩ => ⟨by rw [← r.length]; exact z, ?_⟩)
  have hf : H1 s1.heap.objs.size = none := I1.hok.fresh (Nat.le_refl _)
  refine ⟨.ref s1.heap.objs.size, upd H1 s1.heap.objs.size (.lst xs), I1.laid (t' := s1.toks) (fun b u e => Heap.get?_push_of_some _ e) (Nat.le_refl _) ?_, rfl, q _ hf⟩
  exact ⟨z, us, 0, r, Heap.get?_push_size _ rfl⟩
end

/-! ### what a def promises -/
/-- a def's promise: the bound arguments in the parameters' order, the heap, the wanted end, the wanted exception -/
noncomputable abbrev Sp := List V → Hp → VK → XK → Prop
/-- how an exception lies behind a call (file 08 gives it): the callers' frames, abstract heap and state ahead of the call, the wish, the exception, the state -/
noncomputable abbrev CXT := List Env → Hp → Shared → XK → Value → Shared → Prop

/-- the state at a call -/
structure Env0 (P : Program) (w : World) (K : PySem.W.Frag) (mg : Str → Option Value) (base : Heap) (A : Around) (outer : List Env) (s : Shared) (H : Hp) : Prop where
  frames : A.frames = some outer
  mod : Mod K mg base
  bs : ∀ b o, base.get? b = some o → s.heap.get? b = some o ∧ H b = none
  bsz : base.objs.size ≤ s.heap.objs.size
  funs : s.heap.FunFrames base outer
  frf : ∀ b ∈ frs outer, H b = none
  hok : HOk P w H s.heap
  bare : AllBare s.gens
/-- a call's end -/
noncomputable def CE (outer : List Env) (P : Program) (w : World) (H : Hp) (s : Shared) (Q : VK) (u : Value) (s' : Shared) : Prop :=
  ∃ v H', s'.os = s.os ∧ AllBare s'.gens ∧ Un (frs outer) [] H H' s.heap s'.heap ∧ HOk P w H' s'.heap ∧ RelV v u ∧ Q v H'
noncomputable def CR (CX : CXT) (outer : List Env) (P : Program) (w : World) (H : Hp) (s : Shared) (Q : VK) (E : XK) (r : Result) (s' : Shared) : Prop :=
  match r with
  | .ok (.ret u) => CE outer P w H s Q u s'
  | .ok _ => False
  | .error e => CX outer H s E e s'
structure FnOk (P : Program) (w : World) (K : PySem.W.Frag) (mg : Str → Option Value) (base : Heap) (CX : CXT) (k : Nat) (f : Addr) (fd : FuncData) (ps : List Str) (sp : Sp) : Prop where
  len : ∀ vs H Q E, sp vs H Q E → vs.length = ps.length
  run : ∀ (A : Around) (outer : List Env) (s : Shared) (H : Hp) (args : Args) (us : List Value) (vs : List V) (Q : VK) (E : XK), Room k A → Env0 P w K mg base A outer s H → BindsTo s fd args (ps.zip us) → Vals vs us → sp vs H Q E →
    codeAny (model P w) A (.call (.ref f) args) (CR CX outer P w H s Q E) s
section
variable {X : Cx} {pins : List (Addr × Obj)} {σ : St} {H : Hp} {s s' : Shared}
/-- from a body: what a callee wants -/
theorem Inv.env0 (I : Inv X pins σ H s) : Env0 X.prog X.w X.K X.mg X.base X.A X.stack s H :=
  ⟨I.ok.frames, I.ok.mod, I.bs, Nat.le_trans I.ok.bsz I.sz, I.stack, I.stkFree, I.hok, I.bare⟩
/-- behind a call -/
theorem Inv.after {Q : VK} {u : Value} (I : Inv X pins σ H s) (h : CE X.stack X.prog X.w H s Q u s') : EP X pins σ Q u s' := by
  obtain ⟨v, H', os, bare, un, hok, r, q⟩ := h
  obtain ⟨hh, g, d, t, os'⟩ := s'
  obtain rfl : os' = s.os := os
  exact ⟨v, H', I.call (h' := hh) (g' := g) (d' := d) (t' := t) (ch := []) un hok bare (fun b z => absurd z (by simp)), r, q⟩
end

/-! ### calls -/
/-- f(..): the written arguments, then the defaults dvs; E: what is wanted of an exception -/
noncomputable def tCall (sp : Sp) (dvs : List V) (E : XK) (t : TA) : TE := fun σ H Q => t σ H fun vs H1 => sp (vs ++ dvs) H1 Q E
/-- how the parameters are bound: us the positional arguments, kw the keywords' values by name, ds the defaults that fill up -/
noncomputable def Binds (K : PySem.W.Frag) (fd : FuncData) (ps : List Str) (ds : List Value) : Prop :=
  ∀ (s : Shared) (us : List Value), K.In s.heap → (us ++ ds).length = ps.length → BindsTo s fd ⟨us, []⟩ (ps.zip (us ++ ds))
/-- every parameter is given -/
theorem Binds.all {K : PySem.W.Frag} {fd : FuncData} {ps : List Str} (h : ∀ us : List Value, us.length = ps.length → bindArgs fd ⟨us, []⟩ = pure (ps.zip us)) : Binds K fd ps [] := fun s us _ hl => by
  rw [List.append_nil] at hl ⊢
  exact .of_eq (h us hl)

/-- an exception of a callee reaches what this body wants of exceptions -/
noncomputable def Passes (CX : CXT) (X : Cx) (E : XK) : Prop := ∀ (pins : List (Addr × Obj)) (σ : St) (H : Hp) (s : Shared) (e : Value) (s' : Shared), Inv X pins σ H s → CX X.stack H s E e s' → X.xe e s'

section
variable {X : Cx} {CX : CXT} {k : Nat} {f C : Addr} {fd : FuncData} {ps : List Str} {sp : Sp} {dvs : List V} {ds : List Value} {E : XK} {x m : Str} {p pos apos : Pos} {e o : Expr} {es : List Expr} {ta : TE} {t : TA}

/-- the callee runs -/
theorem run_fn {pins : List (Addr × Obj)} {σ : St} {H : Hp} {s : Shared} {Q : VK} {us : List Value} {vs : List V} (F : FnOk X.prog X.w X.K X.mg X.base CX k f fd ps sp) (hr : Room k X.A) (hb : Binds X.K fd ps ds) (hd : Vals dvs ds) (hx : Passes CX X E)
    (I : Inv X pins σ H s) (r : Vals vs us) (h : sp (vs ++ dvs) H Q E) : wpAny (model X.prog X.w) X.A (call (.ref f) us) (EP X pins σ Q) X.xe s := by
  have r2 : Vals (vs ++ dvs) (us ++ ds) := r.append hd
  have hl : (us ++ ds).length = ps.length := by rw [← r2.length]; exact F.len _ _ _ _ h
  refine wpAny_call (codeAny_mono (F.run X.A X.stack s H ⟨us, []⟩ (us ++ ds) (vs ++ dvs) Q E hr I.env0 (hb s us I.kIn hl) r2 h) fun r s' hq => ?_)
  cases r with
  | error e => exact hx pins σ H s e s' I hq
  | ok fl =>
    cases fl with
    | ret u => exact I.after hq
    | next => exact False.elim hq
    | brk => exact False.elim hq
    | cont => exact False.elim hq

theorem pe_call (F : FnOk X.prog X.w X.K X.mg X.base CX k f fd ps sp) (hr : Room k X.A) (hg : Gl X x) (hm : X.mg x = some (.ref f)) (hk : PySem.W.keepIn X.K (.ref f) = true) (hb : Binds X.K fd ps ds) (hd : Vals dvs ds) (hx : Passes CX X E)
    (ha : PA X (e :: es) t) (hdb : (x == ("__debug__" : Str)) = false := by decide) (he : starEach (e :: es) X.env = (false, eval e X.env) :: starEach es X.env := by rfl) (hpl : (backTo pos (starEach es X.env)).any (·.1) = false := by rfl) :
    PE X (.Call (.Name x p) (e :: es) [] pos) (tCall sp dvs E t) := by
  intro pins s σ H Q I h
  refine wpAny_Call_Name_kw (ld_glob I hg hm ?_ hdb)
  refine PySem.W.callWith_K (h₀ := X.base) I.ok.mod.kin hk (thn (ha pos pins s σ H _ I h) fun us s1 ⟨vs, H1, I1, r, q⟩ => ⟨I1.kIn, ?_⟩) he hpl
  exact run_fn F hr hb hd hx I1 r q
end

/-! ### keywords -/
section
variable {X : Cx} {CX : CXT} {k : Nat} {f C : Addr} {fd : FuncData} {ps ks : List Str} {sp : Sp} {E : XK} {x m : Str} {p pos apos kpos : Pos} {e o : Expr} {es : List Expr} {kws : List Keyword} {te ta : TE} {t tk : TA} {nm : Option Str}
variable {g : List Value → List Value → List Value} {gV : List V → List V → List V}
end

/-! ### a def's body keeps its promise -/
/-- names: the parameters first -/
structure FnScope (N P : List Str) (sc : Scope) : Prop where
  kind : sc.kind = .function
  co : sc.isCoroutine = false
  gen : sc.isGenerator = false
  nd : N.Nodup
  pre : N.take P.length = P
  par : ∀ x ∈ P, sc.names.lookup x = some .local ∨ sc.names.lookup x = some .cell
  nofree : ∀ y ∈ sc.names, y.2 ≠ .free

theorem bindL_out {kindOf : Str → Option NameKind} {x : Str} : ∀ {binds : List (Str × Value)} {m : Str → Option Value}, (∀ v, (x, v) ∉ binds) → bindL kindOf binds m x = m x
  | [], _, _ => rfl
  | (n, v) :: r, m, h => by
    unfold bindL
    rw [bindL_out fun w hw => h w (List.mem_cons_of_mem _ hw)]
    split
    · have : x ≠ n := by rintro rfl; exact h v List.mem_cons_self
      simp [this]
    · rfl
theorem bindC_out {kindOf : Str → Option NameKind} {x : Str} : ∀ {binds : List (Str × Value)} {m : Str → Option Value}, (∀ v, (x, v) ∉ binds) → bindC kindOf binds m x = m x
  | [], _, _ => rfl
  | (n, v) :: r, m, h => by
    unfold bindC
    rw [bindC_out fun w hw => h w (List.mem_cons_of_mem _ hw)]
    split
    · rfl
    · have : x ≠ n := by rintro rfl; exact h v List.mem_cons_self
      simp [this]
theorem bindL_get {kindOf : Str → Option NameKind} {x : Str} {v : Value} : ∀ {P : List Str} {vs : List Value} {i : Nat} {m : Str → Option Value}, P.Nodup → P[i]? = some x → vs[i]? = some v → kindOf x = some .local →
    bindL kindOf (P.zip vs) m x = some v
  | [], _, _, _, _, h, _, _ => by simp at h
  | _ :: _, [], _, _, _, _, h, _ => by simp at h
  | p :: P, w :: vs, 0, m, nd, h1, h2, hk => by
    simp at h1 h2; subst h1; subst h2
    show bindL kindOf ((p, w) :: P.zip vs) m p = _
    unfold bindL
    rw [bindL_out fun v hv => (List.nodup_cons.mp nd).1 (List.of_mem_zip hv).1, if_pos hk]
    simp
  | p :: P, w :: vs, i + 1, m, nd, h1, h2, hk => by
    show bindL kindOf ((p, w) :: P.zip vs) m x = _
    unfold bindL
    exact bindL_get (i := i) (List.nodup_cons.mp nd).2 (by simpa using h1) (by simpa using h2) hk
theorem bindC_get {kindOf : Str → Option NameKind} {x : Str} {v : Value} : ∀ {P : List Str} {vs : List Value} {i : Nat} {m : Str → Option Value}, P.Nodup → P[i]? = some x → vs[i]? = some v → kindOf x ≠ some .local →
    bindC kindOf (P.zip vs) m x = some v
  | [], _, _, _, _, h, _, _ => by simp at h
  | _ :: _, [], _, _, _, _, h, _ => by simp at h
  | p :: P, w :: vs, 0, m, nd, h1, h2, hk => by
    simp at h1 h2; subst h1; subst h2
    show bindC kindOf ((p, w) :: P.zip vs) m p = _
    unfold bindC
    rw [bindC_out fun v hv => (List.nodup_cons.mp nd).1 (List.of_mem_zip hv).1, if_neg hk]
    simp
  | p :: P, w :: vs, i + 1, m, nd, h1, h2, hk => by
    show bindC kindOf ((p, w) :: P.zip vs) m x = _
    unfold bindC
    exact bindC_get (i := i) (List.nodup_cons.mp nd).2 (by simpa using h1) (by simpa using h2) hk

/-- the names' values at the entry -/
noncomputable def start (N : List Str) (vs : List V) : St := vs.map some ++ List.replicate (N.length - vs.length) none

/-- the context of a def's body, at its entry; an exception leaves the frame, then lies as CX says -/
noncomputable def cxOf (CX : CXT) (P : Program) (w : World) (K : PySem.W.Frag) (mg : Str → Option Value) (base : Heap) (N : List Str) (qual : Str) (scope : Scope) (f : Addr) (cd : Value) (A : Around) (outer : List Env) (s : Shared) (H : Hp) (E : XK) : Cx where
  prog := P
  w := w
  K := K
  mg := mg
  base := base
  A := A.deeper (envOfC qual scope s.heap.objs.size f cd)
  N := N
  s₀ := s
  H₀ := H
  env := envOfC qual scope s.heap.objs.size f cd
  outer := outer
  stack := envOfC qual scope s.heap.objs.size f cd :: outer
  ex := []
  calm := true
  fn := fun _ => true
  pn := []
  xe := fun e s' => wpAny (model P w) (A.deeper (envOfC qual scope s.heap.objs.size f cd)) (leaving (envOfC qual scope s.heap.objs.size f cd) e) (fun _ s'' => CX outer H s E e s'') (fun e' s'' => CX outer H s E e' s'') s'

theorem cell_has {sc : Scope} {n : Nat} {x : Str} (h : sc.names.lookup x = some .cell) : ∃ c, (cellsFrom n sc.names []).lookup x = some c := by
  have q := PySem.W.cellsFrom_some sc.names n [] (.inl h)
  exact Option.isSome_iff_exists.mp q

theorem inv_start {CX : CXT} {P : Program} {w : World} {K : PySem.W.Frag} {mg : Str → Option Value} {base : Heap} {N ps : List Str} {qual : Str} {scope : Scope} {f : Addr} {cd : Value} {A : Around} {outer : List Env} {s s1 : Shared} {H : Hp} {E : XK} {us : List Value} {vs : List V}
    (S : FnScope N ps scope) (hd : A.handled = none) (e0 : Env0 P w K mg base A outer s H) (hl : vs.length = ps.length) (r : Vals vs us)
    (x : InCallC s s.heap.objs.size (bindL (envOfC qual scope s.heap.objs.size f cd).kindOf (ps.zip us) fun _ => none) (cellsFrom (s.heap.objs.size + 1) scope.names []) (bindC (envOfC qual scope s.heap.objs.size f cd).kindOf (ps.zip us) fun _ => none) s1) :
    Inv (cxOf CX P w K mg base N qual scope f cd A outer s H E) [] (start N vs) H s1 := by
  have hpl : ps.length ≤ N.length := by have := congrArg List.length S.pre; rw [List.length_take] at this; omega
  obtain ⟨h1, tk, rfl, hk⟩ := x.done
  have noA : ∀ b : Addr, b ∉ (cxOf CX P w K mg base N qual scope f cd A outer s H E).ex := fun b z => absurd (show b ∈ ([] : List Addr) from z) (by simp)
  refine ⟨⟨e0.mod, S.kind, rfl, rfl, Nat.le_refl _, fun y z c h1 h2 => ?_, fun y hy => ?_, fun y c _ h => ?_, fun _ => hd, Around.frames_deeper e0.frames, .inr ⟨rfl, rfl⟩, fun b z => absurd z (noA b), e0.bs, e0.bsz, fun b _ _ => noA b, fun b z => absurd z (noA b), e0.funs, e0.frf⟩,
    rfl, e0.bare, Un.kept hk, ⟨_, x.toInCall.ns, fun i y v h1 h2 h3 => ?_⟩, fun y c h => ⟨_, x.cell y c h⟩, e0.hok.fresh (Nat.le_refl _), fun y c h => ?_, fun p hp => absurd (show p ∈ ([] : List (Addr × Obj)) from hp) (by simp), e0.hok.kept hk, ?_⟩
  · exact name_of_addr x.apart (PySem.mem_of_lookup h1) (PySem.mem_of_lookup h2)
  · have hy : scope.names.lookup y = some .cell ∨ scope.names.lookup y = some .free := hy
    rcases hy with hy | hy
    · exact cell_has hy
    · exact absurd rfl (S.nofree _ (PySem.mem_of_lookup hy))
  · exact Nat.le_of_lt (x.above y c (PySem.mem_of_lookup h))
  · have hi : i < vs.length := by
      unfold start at h2
      by_cases hi : i < vs.length
      · exact hi
      · rw [List.getElem?_append_right (by simpa using hi)] at h2
        rw [List.getElem?_replicate] at h2
        split at h2 <;> cases h2
    have ha : vs[i]? = some v := by
      unfold start at h2
      rw [List.getElem?_append_left (by simpa using hi), List.getElem?_map] at h2
      cases e : vs[i]? with
      | none => rw [e] at h2; cases h2
      | some a => rw [e] at h2; cases h2; rfl
    obtain ⟨u, hu, rv⟩ := r.get ha
    have hp : ps[i]? = some y := by
      rw [← S.pre, List.getElem?_take_of_lt (by omega)]; exact h1
    have ndP : ps.Nodup := by rw [← S.pre]; exact S.nd.sublist (List.take_sublist _ _)
    refine ⟨u, rv, ?_⟩
    rcases S.par y (List.mem_of_getElem? hp) with k | k
    · exact .inl ⟨k, bindL_get ndP hp hu k⟩
    · obtain ⟨c, e⟩ := cell_has (n := s.heap.objs.size + 1) k
      refine .inr ⟨.inl k, c, e, ?_⟩
      have q := x.cell y c e
      rw [bindC_get ndP hp hu (by show scope.names.lookup y ≠ _; rw [k]; decide)] at q
      exact q
  · exact e0.hok.fresh (Nat.le_of_lt (x.above y c (PySem.mem_of_lookup h)))
  · unfold start
    show _ = N.length
    rw [List.length_append, List.length_map, List.length_replicate]
    omega

/-- THE RULE: a def (or a method) of the text, by its body. The body's reading t is chosen for each entry; it is run at the parameters' values -/
theorem fn_of {CX : CXT} {P : Program} {w : World} {K : PySem.W.Frag} {mg : Str → Option Value} {base : Heap} {k : Nat} {f : Addr} {name qual : Str} {params : Arguments} {body : List Stmt} {scope : Scope} {dV kV doc pm cdv ct oc : Value} {an od : Option Addr}
    {osl : Array (Option Value)} {N ps : List Str} {sp : Sp} (lk : K.lookup f = some ⟨oc, od, .func (PySem.W.fnOf name qual params body scope dV kV doc pm an cdv ct), osl⟩) (hcd : PySem.W.codeIn K cdv qual = true) (S : FnScope N ps scope)
    (len : ∀ vs H Q E, sp vs H Q E → vs.length = ps.length)
    (hbody : ∀ (A : Around) (outer : List Env) (s : Shared) (H : Hp) (vs : List V) (Q : VK) (E : XK), Room k (A.deeper (envOfC qual scope s.heap.objs.size f cdv)) → sp vs H Q E →
      ∃ t, PSs (cxOf CX P w K mg base N qual scope f cdv A outer s H E) body t ∧ t { nx := fun _ H' => Q .non H', rt := Q } (start N vs) H) :
    FnOk P w K mg base CX (k + 1) f (PySem.W.fnOf name qual params body scope dV kV doc pm an cdv ct) ps sp := by
  refine ⟨len, fun A outer s H args us vs Q E hr e0 hb r hsp => ?_⟩
  have hl := len _ _ _ _ hsp
  have KX : K.In s.heap := e0.mod.kin.keeps fun b o e => (e0.bs b o e).1
  have lim : s.heap.NoLimit := e0.mod.nolimit.keeps fun b o e => (e0.bs b o e).1
  have hkind : ∀ y ∈ ps.zip us, scope.names.lookup y.1 = some .local ∨ (scope.names.lookup y.1 = some .cell ∧ ((cellsFrom (s.heap.objs.size + 1) scope.names []).lookup y.1).isSome = true) := fun ⟨n, v⟩ hy => by
    rcases S.par n (List.of_mem_zip hy).1 with q | q
    · exact .inl q
    · exact .inr ⟨q, PySem.W.cellsFrom_some _ _ _ (.inl q)⟩
  refine codeAny_call_function hr.depth (KX _ _ lk) rfl S.co S.gen rfl (PySem.W.codeRec_of KX hcd) (hb _ _ _ _ ?_)
  refine wpAny_newFunctionEnv_cells S.kind hkind fun env he s1 x => ?_
  subst he
  refine ⟨lim.keeps x.toInCall.keep, codeAny_func ?_⟩
  obtain ⟨t, ht, hq⟩ := hbody A outer s H vs Q E (hr.deeper _) hsp
  have I : Inv (cxOf CX P w K mg base N qual scope f cdv A outer s H E) [] (start N vs) H s1 := inv_start S hr.hd e0 hl r x
  refine wpAny_mono (ht [] s1 (start N vs) H _ I hq) (fun fl s' hs => ?_) fun e s' hs => hs
  have fin : ∀ {σ' : St} {H' : Hp} {v : V} {u : Value}, Inv (cxOf CX P w K mg base N qual scope f cdv A outer s H E) [] σ' H' s' → RelV v u → Q v H' → CE outer P w H s Q u s' :=
    fun {σ' H' v u} J rv q => ⟨v, H', J.os, J.bare, J.base, J.hok, rv, q⟩
  cases fl with
  | ret u =>
    obtain ⟨v, σ', H', J, rv, q⟩ := hs
    exact fin J rv q
  | next =>
    obtain ⟨σ', H', J, q⟩ := hs
    exact fin (v := V.non) (u := Value.none) J rfl q
  | brk =>
    obtain ⟨_, _, _, q⟩ := hs
    exact False.elim q
  | cont =>
    obtain ⟨_, _, _, q⟩ := hs
    exact False.elim q
end L2

namespace L2
open PySem PySem.Spec PyProof.Rows
section
variable {X : Cx} {x : Str} {p pos : Pos} {e : Expr} {es : List Expr} {t : TA} {id T : String} {r : List V → Hp → VK → Prop}

noncomputable def tCB (r : List V → Hp → VK → Prop) (t : TA) : TE := fun σ H Q => t σ H fun vs H1 => r vs H1 Q
/-- f(e, ..), f a built-in function -/
theorem pe_callB (hc : CallR X (.builtin id) r) (hg : Gl X x) (hm : X.mg x = none) (hv : bootBuiltins x = some (.builtin id)) (ha : PA X (e :: es) t) (hn : x ≠ "__name__" := by decide) (hdb : (x == ("__debug__" : Str)) = false := by decide)
    (he : starEach (e :: es) X.env = (false, eval e X.env) :: starEach es X.env := by rfl) (hpl : (backTo pos (starEach es X.env)).any (·.1) = false := by rfl) : PE X (.Call (.Name x p) (e :: es) [] pos) (tCB r t) := by
  intro pins s σ H Q I h
  refine wpAny_Call_Name_kw (ld_blt I hg hm hv ?_ hn hdb)
  exact PyProof.Rows.callWith_builtin1 (thn (ha pos pins s σ H _ I h) fun us s1 ⟨vs, H1, I1, r1, q1⟩ => hc pins s1 σ H1 vs us Q I1 r1 q1) he hpl
/-- T(e, ..), T a built-in type -/
theorem pe_callTy (hc : CallR X (.type T) r) (hg : Gl X x) (hm : X.mg x = none) (hv : bootBuiltins x = some (.type T)) (ha : PA X (e :: es) t) (hn : x ≠ "__name__" := by decide) (hdb : (x == ("__debug__" : Str)) = false := by decide)
    (he : starEach (e :: es) X.env = (false, eval e X.env) :: starEach es X.env := by rfl) (hpl : (backTo pos (starEach es X.env)).any (·.1) = false := by rfl) : PE X (.Call (.Name x p) (e :: es) [] pos) (tCB r t) := by
  intro pins s σ H Q I h
  refine wpAny_Call_Name_kw (ld_blt I hg hm hv ?_ hn hdb)
  exact PyProof.Rows.callWith_type1 (thn (ha pos pins s σ H _ I h) fun us s1 ⟨vs, H1, I1, r1, q1⟩ => hc pins s1 σ H1 vs us Q I1 r1 q1) he hpl
end
end L2

namespace HT
open PySem PyProof.Rows

section
open PySem.SeqAt
open PySem.AutoSeq1 (wpAny_loadPart')
open PySem.MeetsSeq PySem.MeetsSeq2 PySem.MeetsSeq3

end

section
variable {prog : Program} {w : World} {A : Around} {E : Value → Shared → Prop} {s : Shared}

/-- t + u, t not empty -/
theorem cat_tup {t b : Addr} {vs ws : List Value} {Q : Value → Shared → Prop} (ht : IsTup s.heap t vs.toArray) (hb : IsTup s.heap b ws.toArray) (hv : vs ≠ [])
    (h1 : ws = [] → Q (.ref t) s) (h2 : ws ≠ [] → Q (.ref s.heap.objs.size) { s with heap := s.heap.push { cls := .type "tuple", data := .seq (vs ++ ws).toArray } })
    (hsz : vs.length + ws.length ≤ sizeLine) : wpAny (model prog w) A (binaryOp .Add (.ref t) (.ref b)) Q E s := by
  obtain ⟨⟨cls, dd, data, sl⟩, ho, hc, n, hd⟩ := id ht
  obtain ⟨⟨cls2, dd2, data2, sl2⟩, ho2, hc2, n2, hd2⟩ := id hb
  simp only at hc hd hc2 hd2
  subst hc hd hc2 hd2
  have e : vs.toArray ++ ws.toArray = (vs ++ ws).toArray := by simp
  by_cases hw : ws = []
  · exact concat_meets ⟨_, ho, rfl⟩ ⟨_, ho2, rfl⟩ noFill_tuple_add seq_tuple_add PySem.F.slot_tuple_add PySem.F.entry_tuple_add (PySem.F.args_tuple_add_2 _ _)
      (tuple_addW1 t b vs.toArray ws.toArray n n2 dd dd2 sl sl2 (by simpa using hv) (by simp [hw])) ⟨ho, ho2, h1 hw⟩
  · refine concat_meets ⟨_, ho, rfl⟩ ⟨_, ho2, rfl⟩ noFill_tuple_add seq_tuple_add PySem.F.slot_tuple_add PySem.F.entry_tuple_add (PySem.F.args_tuple_add_2 _ _)
      (tuple_addW2 t b vs.toArray ws.toArray n n2 dd dd2 sl sl2 (by simpa using hv) (by simpa using hw) (by rw [List.size_toArray, List.size_toArray]; exact hsz)) ⟨ho, ho2, ?_⟩
    rw [e]
    exact h2 hw

/-! ### t[a:b], not the whole -/
/-- a slice's bound as a place among n (d where it is left out) -/
noncomputable def sIx (n d : Nat) : Option Int → Nat
  | none => d
  | some v => if v < 0 then (v + (n : Int)).toNat else min v.toNat n
theorem sIx_nat (n d k : Nat) : sIx n d (some (k : Int)) = min k n := by
  show (if (k : Int) < 0 then ((k : Int) + (n : Int)).toNat else min (k : Int).toNat n) = min k n
  rw [if_neg (by omega), Int.toNat_natCast]
theorem sIx_le (n d : Nat) (hd : d ≤ n) (o : Option Int) : sIx n d o ≤ n := by
  cases o with
  | none => exact hd
  | some v =>
    show (if v < 0 then (v + (n : Int)).toNat else min v.toNat n) ≤ n
    by_cases hv : v < 0
    · rw [if_pos hv]; omega
    · rw [if_neg hv]; exact Nat.min_le_right _ _
theorem clip_eq (v : Int) (n d : Nat) : (if v < 0 then max (v + (n : Int)) 0 else min v (n : Int)) = ((sIx n d (some v) : Nat) : Int) := by
  show (if v < 0 then max (v + (n : Int)) 0 else min v (n : Int)) = (((if v < 0 then (v + (n : Int)).toNat else min v.toNat n) : Nat) : Int)
  by_cases hv : v < 0
  · simp only [if_pos hv]; omega
  · simp only [if_neg hv]; omega
theorem adjust_gen (lo hi : Option Int) (n : Nat) : Builtin.Slice.sliceAdjust lo hi 1 (n : Int) = (((sIx n 0 lo : Nat) : Int), ((sIx n n hi : Nat) : Int)) := by
  have h1 : ¬ ((1 : Int) < 0) := by omega
  unfold Builtin.Slice.sliceAdjust
  simp only [h1, if_false]
  refine Prod.ext ?_ ?_
  · cases lo with
    | none => rfl
    | some v => exact clip_eq v n 0
  · cases hi with
    | none => rfl
    | some v => exact clip_eq v n n
theorem places_gen (i j : Nat) : Builtin.Slice.slicePlaces (i : Int) (j : Int) 1 = j - i := by
  unfold Builtin.Slice.slicePlaces
  have h1 : (1 : Int) > 0 := by omega
  simp only [h1, if_true, Int.ediv_one]
  split <;> omega
theorem slicePart_ {v : Value} {o : Option Int} {Q : Option Int → Shared → Prop} (p : IsPart v o) (h : Q o s) : wpAny (model prog w) A (Builtin.Slice.slicePartIndex v) Q E s := by
  cases p with
  | none => exact slicePart_none h
  | int i t => exact slicePart_int h
theorem sliceApplied_gen {sl : Addr} {vl vu : Value} {lo hi : Option Int} {n : Nat} {Q : Int × Int × Nat → Shared → Prop} (hs : s.heap.IsSliceOf sl vl vu .none) (pl : IsPart vl lo) (pu : IsPart vu hi)
    (h : Q (((sIx n 0 lo : Nat) : Int), 1, sIx n n hi - sIx n 0 lo) s) : wpAny (model prog w) A (Builtin.Slice.sliceApplied (.ref sl) (pure (n : Int))) Q E s := by
  obtain ⟨os, hos, hcs, hds⟩ := id hs
  unfold Builtin.Slice.sliceApplied Builtin.Slice.sliceFields
  refine wpAny_bind (wpAny_bind (wpAny_field hos hds (x := vl) rfl (wpAny_bind (wpAny_field hos hds (x := vu) rfl (wpAny_bind (wpAny_field hos hds (x := .none) rfl (wpAny_pure ?_)))))))
  refine wpAny_bind (slicePart_none ?_)
  show wpAny _ _ (if ((1 : Int) == 0) = true then _ else _) _ _ s
  rw [if_neg (by decide)]
  refine wpAny_bind (slicePart_ pl (wpAny_bind (slicePart_ pu (wpAny_bind (wpAny_pure ?_)))))
  show wpAny _ _ (match Builtin.Slice.sliceAdjust lo hi 1 (n : Int) with | (lo, hi) => pure (lo, (1 : Int), Builtin.Slice.slicePlaces lo hi 1)) _ _ s
  rw [adjust_gen lo hi n]
  show wpAny _ _ (pure (((sIx n 0 lo : Nat) : Int), (1 : Int), Builtin.Slice.slicePlaces ((sIx n 0 lo : Nat) : Int) ((sIx n n hi : Nat) : Int) 1)) _ _ s
  rw [places_gen]
  exact wpAny_pure h
theorem pick_gen (xs : Array Value) (i k : Nat) : ((List.range k).filterMap fun (m : Nat) => xs[((i : Int) + (m : Int) * 1).toNat]?).toArray = ((xs.toList.drop i).take k).toArray := by
  have e : (fun (m : Nat) => xs[((i : Int) + (m : Int) * 1).toNat]?) = fun m => xs[i + m]? := by
    funext m
    have : ((i : Int) + (m : Int) * 1).toNat = i + m := by omega
    rw [this]
  rw [e]
  have := pick_run xs i k
  rw [List.filterMap_map] at this
  have e2 : ((fun x => xs[x]?) ∘ fun x => i + x) = fun m => xs[i + m]? := rfl
  rw [e2] at this
  rw [this]

theorem getItem_tuple_cut {t sl : Addr} {items : Array Value} {vl vu : Value} {lo hi : Option Int} {Q : Value → Shared → Prop} (ht : IsTup s.heap t items) (hs : s.heap.IsSliceOf sl vl vu .none) (pl : IsPart vl lo) (pu : IsPart vu hi)
    (hw : ¬ (sIx items.size 0 lo = 0 ∧ sIx items.size items.size hi = items.size))
    (h : Q (.ref s.heap.objs.size) { s with heap := s.heap.push { cls := .type "tuple", data := .seq ((items.toList.drop (sIx items.size 0 lo)).take (sIx items.size items.size hi - sIx items.size 0 lo)).toArray } })
    (hsz : items.size ≤ sizeLine) : wpAny (model prog w) A (getItem (.ref t) (.ref sl)) Q E s := by
  have htake : sizeOk (.seq ((items.toList.drop (sIx items.size 0 lo)).take (sIx items.size items.size hi - sIx items.size 0 lo)).toArray) := by
    show ((items.toList.drop (sIx items.size 0 lo)).take (sIx items.size items.size hi - sIx items.size 0 lo)).toArray.size ≤ sizeLine
    rw [List.size_toArray, List.length_take, List.length_drop, Array.length_toList]
    omega
  have hj : sIx items.size items.size hi ≤ items.size := sIx_le _ _ (Nat.le_refl _) hi
  obtain ⟨os, hos, hcs, hds⟩ := id hs
  have hTs : s.TypeIs (.ref sl) "slice" := ⟨os, hos, hcs⟩
  unfold getItem
  try with_reducible refine wpAny_holding ?_
  first | refine wpAny_bind (wpAny_pure ?_) | skip
  refine wpAny_bind (wpAny_sequenceKey ht.typeIs (by decide) ?_)
  refine wpAny_bind (wpAny_callSpecial?_slot (name := Str.ofString "__getitem__") ht.typeIs PyProof.Rows.slot_tuple_getitem
    (wpAny_call_entry PyProof.Rows.slot_tuple_getitem ht.typeIs entry_tuple_getitem ?_ (args_tuple_getitem _ _)))
  show wpAny _ _ (Builtin.Tuple.tupleItemsOf (.ref t) >>= _) _ _ s
  refine wpAny_bind (tupleItemsOf_ ht ?_)
  refine wpAny_bind (wpAny_typeOf hTs ?_)
  rw [if_pos (by decide)]
  refine wpAny_bind (sliceApplied_gen hs pl pu ?_)
  have hno : ¬ ((((sIx items.size 0 lo : Nat) : Int) == 0 && (1 : Int) == 1 && (sIx items.size items.size hi - sIx items.size 0 lo) == items.size) = true) := by
    intro q
    rw [Bool.and_eq_true, Bool.and_eq_true] at q
    have q1 : ((sIx items.size 0 lo : Nat) : Int) = 0 := eq_of_beq q.1.1
    have q2 : sIx items.size items.size hi - sIx items.size 0 lo = items.size := eq_of_beq q.2
    exact hw ⟨by omega, by omega⟩
  show wpAny _ _ (if (((sIx items.size 0 lo : Nat) : Int) == 0 && (1 : Int) == 1 && (sIx items.size items.size hi - sIx items.size 0 lo) == items.size) = true then _ else _) _ _ s
  rw [if_neg hno, pick_gen]
  first
    | exact wpAny_bind (m := Builtin.Tuple.tupleExact _) (wpAny_newObj_type (wpAny_pure ⟨_, rfl, wpAny_pure h⟩) htake)
    | exact wpAny_bind (m := Builtin.Tuple.tupleExact _) (wpAny_newObj_type (wpAny_bind (wpAny_pure (wpAny_pure ⟨_, rfl, wpAny_pure h⟩))) htake)
    | exact wpAny_bind (wpAny_bind (m := Builtin.Tuple.tupleExact _) (wpAny_newObj_type (wpAny_pure (wpAny_pure ⟨_, rfl, wpAny_pure h⟩)) htake))
    | exact wpAny_bind (wpAny_bind (m := Builtin.Tuple.tupleExact _) (wpAny_newObj_type (wpAny_pure ⟨_, rfl, wpAny_pure h⟩) htake))
end
end HT

namespace L2
open PySem PySem.Spec PyProof.Rows

/-! ### the parts of a slice -/
noncomputable abbrev TO := St → Hp → (Option Int → Hp → Prop) → Prop
/-- a slice's part (left out, or an int) -/
noncomputable def PO (X : Cx) (e : Option Expr) (t : TO) : Prop :=
  ∀ (pins : List (Addr × Obj)) (s : Shared) (σ : St) (H : Hp) (Q : Option Int → Hp → Prop), Inv X pins σ H s → t σ H Q →
    wpAny (model X.prog X.w) X.A (evalPart e X.env) (fun u s' => ∃ o H', Inv X pins σ H' s' ∧ IsPart u o ∧ Q o H') X.xe s
noncomputable def tNoPart : TO := fun _ H Q => Q none H
noncomputable def tPart (t : TE) : TO := fun σ H Q => t σ H fun x H1 => ∃ i, x = .int i ∧ Q (some i) H1

section
variable {X : Cx} {e : Expr} {te : TE} {lo hi : Option Expr} {tl th : TO} {pos p2 : Pos}

theorem po_none : PO X none tNoPart := by
  intro pins s σ H Q I h
  rw [evalPart_none]
  exact wpAny_pure ⟨none, H, I, .none, h⟩
theorem po_some (h : PE X e te) : PO X (some e) (tPart te) := by
  intro pins s σ H Q I hw
  rw [evalPart_some]
  refine thn (h pins s σ H _ I hw) fun u s1 ⟨x, H1, I1, r1, q1⟩ => ?_
  obtain ⟨i, rfl, q⟩ := q1
  obtain ⟨t, rfl⟩ := r1
  exact ⟨some i, H1, I1, .int i t, q⟩

/-- what a slice of a value is, by values: the slice object stands at sl -/
noncomputable def SlR (X : Cx) (r : V → Option Int → Option Int → Hp → VK → Prop) : Prop :=
  ∀ (pins : List (Addr × Obj)) (s : Shared) (σ : St) (H : Hp) (x : V) (v vl vu : Value) (lo hi : Option Int) (sl : Addr) (Q : VK), Inv X pins σ H s → RelV x v → s.heap.IsSliceOf sl vl vu .none → IsPart vl lo → IsPart vu hi → r x lo hi H Q →
    ∃ T id, typeLookup (.type T) "__getitem__" = pure (some (.builtin id)) ∧ s.TypeIs v T ∧ wpAny (model X.prog X.w) X.A (getItem v (.ref sl)) (EP X pins σ Q) X.xe s
noncomputable def tSl (r : V → Option Int → Option Int → Hp → VK → Prop) (te : TE) (tl th : TO) : TE := fun σ H Q => te σ H fun x H1 => tl σ H1 fun l H2 => th σ H2 fun u H3 => r x l u H3 Q
/-- a[lo:hi], any a -/
theorem pe_slice {r : V → Option Int → Option Int → Hp → VK → Prop} (hr : SlR X r) (he : PE X e te) (hl : PO X lo tl) (hu : PO X hi th) : PE X (.Subscript e (.Slice lo hi none p2) pos) (tSl r te tl th) := by
  intro pins s σ H Q I h
  refine Subscript_ (thn (he pins s σ H _ I h) fun v s1 ⟨x, H1, I1, r1, q1⟩ => ?_)
  refine wpAny_Slice (thn (hl pins s1 σ H1 _ I1 q1) fun vl s2 ⟨l, H2, I2, pl, q2⟩ => thn (hu pins s2 σ H2 _ I2 q2) fun vu s3 ⟨u, H3, I3, pu, q3⟩ => ?_)
  rw [evalPart_none]
  refine wpAny_pure ?_
  have I4 : Inv X pins σ H3 { s3 with heap := s3.heap.push { cls := .type "slice", data := .fields #[vl, vu, .none] } } := I3.kept (t' := s3.toks) fun b ob q => Heap.get?_push_of_some _ q
  obtain ⟨T, id, hT, ht, hg⟩ := hr pins { s3 with heap := s3.heap.push { cls := .type "slice", data := .fields #[vl, vu, .none] } } σ H3 x v vl vu l u s3.heap.objs.size Q I4 r1 (Heap.IsSliceOf.new ..) pl pu q3
  show wpAny (model X.prog X.w) X.A (subscriptTail e (.Slice lo hi none p2) v (.ref s3.heap.objs.size)) (EP X pins σ Q) X.xe { s3 with heap := s3.heap.push { cls := .type "slice", data := .fields #[vl, vu, .none] } }
  exact tail_any (ops := [.ref s3.heap.objs.size, v]) ht hT hg (by with_unfolding_all rfl)

/-- the items of xs[lo:hi] -/
noncomputable def cutV (xs : List V) (lo hi : Option Int) : List V := (xs.drop (HT.sIx xs.length 0 lo)).take (HT.sIx xs.length xs.length hi - HT.sIx xs.length 0 lo)
theorem cutV_length (xs : List V) (lo hi : Option Int) : (cutV xs lo hi).length ≤ xs.length := by
  unfold cutV
  rw [List.length_take, List.length_drop]
  omega
/-- t[lo:hi], not the whole of it (the whole would be t itself) -/
noncomputable def rSlT (K : PySem.W.Frag) : V → Option Int → Option Int → Hp → VK → Prop := fun x lo hi H Q => ∃ a xs, x = .ref a ∧ SqT K H a xs ∧
  ¬ (HT.sIx xs.length 0 lo = 0 ∧ HT.sIx xs.length xs.length hi = xs.length) ∧ ∀ p, H p = none → Q (.ref p) (upd H p (.tup (cutV xs lo hi)))
theorem sl_tup : SlR X (rSlT X.K) := by
  intro pins s σ H x v vl vu lo hi sl Q I rx hs pl pu h
  obtain ⟨a, xs, rfl, hx, hw, q⟩ := h
  cases rx
  obtain ⟨its, r, ht, hz⟩ := I.tuple hx
  have hlen : its.toArray.size = xs.length := by rw [List.size_toArray]; exact r.length.symm
  refine ⟨"tuple", _, PyProof.Rows.slot_tuple_getitem.lookup, ht.typeIs, ?_⟩
  refine HT.getItem_tuple_cut ht hs pl pu (by rw [hlen]; exact hw) ?_ (by rw [hlen]; exact hz)
  rw [hlen]
  refine ⟨.ref s.heap.objs.size, _, I.laid (t' := s.toks) (o := .tup (cutV xs lo hi)) (fun b ob q => Heap.get?_push_of_some _ q) (Nat.le_refl _) ?_, rfl, q _ (I.hok.fresh (Nat.le_refl _))⟩
  exact ⟨Nat.le_trans (cutV_length xs lo hi) hz, _, (r.drop (HT.sIx xs.length 0 lo)).take (HT.sIx xs.length xs.length hi - HT.sIx xs.length 0 lo), IsTup.new _ _⟩

/-! ### t < u, t + u -/
/-- t + u, t not empty: u empty gives t itself -/
noncomputable def rCatT (K : PySem.W.Frag) : R2 := fun x y H Q => ∃ a b xs ys, x = .ref a ∧ y = .ref b ∧ SqT K H a xs ∧ SqT K H b ys ∧ xs ≠ [] ∧ xs.length + ys.length ≤ sizeLine ∧
  (ys = [] → Q (.ref a) H) ∧ (ys ≠ [] → ∀ p, H p = none → Q (.ref p) (upd H p (.tup (xs ++ ys))))
theorem Vals.nil_iff {xs : List V} {us : List Value} (r : Vals xs us) : us = [] ↔ xs = [] := by
  cases r with
  | nil => simp
  | cons _ _ => simp
theorem op_catT : OpR X (binaryOp .Add) (rCatT X.K) := by
  intro pins s σ H x y v u Q I rx ry h
  obtain ⟨a, b, xs, ys, rfl, rfl, ha, hb, hx, hz, q1, q2⟩ := h
  cases rx
  cases ry
  obtain ⟨its, r1, p1, _⟩ := I.tuple ha
  obtain ⟨its2, r2, p2, _⟩ := I.tuple hb
  refine HT.cat_tup p1 p2 (fun z => hx (r1.nil_iff.mp z)) (fun z => ⟨.ref a, H, I, rfl, q1 (r2.nil_iff.mp z)⟩) (fun z => ?_) (by rw [← r1.length, ← r2.length]; exact hz)
  refine ⟨.ref s.heap.objs.size, _, I.laid (t' := s.toks) (o := .tup (xs ++ ys)) (fun b ob q => Heap.get?_push_of_some _ q) (Nat.le_refl _) ?_, rfl, q2 (fun w => z (r2.nil_iff.mpr w)) _ (I.hok.fresh (Nat.le_refl _))⟩
  exact ⟨by rw [List.length_append]; exact hz, _, r1.append r2, IsTup.new _ _⟩
end
end L2

namespace L2
open PySem PySem.Spec PyProof.Rows

/-! ### places -/
/-- the place that an index of any sign means -/
noncomputable def ixN (n : Nat) (i : Int) : Option Nat := if 0 ≤ i then (if i < n then some i.toNat else none) else if -(n : Int) ≤ i then some (i + n).toNat else none
noncomputable def atI {α : Type} (xs : List α) (i : Int) : Option α := (ixN xs.length i).bind fun j => xs[j]?
theorem ixN_seq {n : Nat} {i : Int} {j : Nat} (h : ixN n i = some j) : seqIndex? i n = some j ∧ j < n ∧ -(n : Int) ≤ i ∧ i < n := by
  unfold ixN at h
  by_cases h0 : 0 ≤ i
  · rw [if_pos h0] at h
    by_cases h1 : i < n
    · rw [if_pos h1] at h
      have e : i.toNat = j := Option.some.inj h
      exact ⟨by rw [seqIndex_of h0 h1, e], by omega, by omega, h1⟩
    · rw [if_neg h1] at h; cases h
  · rw [if_neg h0] at h
    by_cases h1 : -(n : Int) ≤ i
    · rw [if_pos h1] at h
      have e : (i + n).toNat = j := Option.some.inj h
      exact ⟨by rw [seqIndex_neg (by omega) h1, e], by omega, h1, by omega⟩
    · rw [if_neg h1] at h; cases h
theorem atI_get {α : Type} {xs : List α} {i : Int} {v : α} (h : atI xs i = some v) : ∃ j, seqIndex? i xs.length = some j ∧ xs[j]? = some v ∧ j < xs.length ∧ -(xs.length : Int) ≤ i ∧ i < xs.length := by
  unfold atI at h
  cases e : ixN xs.length i with
  | none => rw [e] at h; cases h
  | some j =>
    rw [e] at h
    obtain ⟨h1, h2, h3, h4⟩ := ixN_seq e
    exact ⟨j, h1, h, h2, h3, h4⟩
theorem atI_last {α : Type} (xs : List α) (v : α) : atI (xs ++ [v]) (-1) = some v := by
  have hl : (xs ++ [v]).length = xs.length + 1 := by simp
  have e : ixN (xs ++ [v]).length (-1) = some xs.length := by
    unfold ixN
    rw [hl, if_neg (by decide), if_pos (by omega)]
    congr 1
    omega
  unfold atI
  rw [e]
  show (xs ++ [v])[xs.length]? = some v
  simp

/-! ### what may be subscripted -/
/-- what stands as an index of a plain subscript -/
noncomputable def PlainIx (b : Expr) : Prop := ∀ o i, subscripted b false o i = operate [o, i] (getItem o i)
/-- a subscript by values -/
noncomputable def IxR (X : Cx) (r : R2) : Prop :=
  ∀ (value slice : Expr) (pins : List (Addr × Obj)) (s : Shared) (σ : St) (H : Hp) (x y : V) (v u : Value) (Q : VK), Inv X pins σ H s → RelV x v → RelV y u → r x y H Q →
    subscripted slice false v u = operate [v, u] (getItem v u) → wpAny (model X.prog X.w) X.A (subscriptTail value slice v u) (EP X pins σ Q) X.xe s
/-- a call of a builtin's method by values: the receiver, the arguments -/
noncomputable def MtR (X : Cx) (id : String) (r : V → List V → Hp → VK → Prop) : Prop :=
  ∀ (pins : List (Addr × Obj)) (s : Shared) (σ : St) (H : Hp) (x : V) (xs : List V) (v : Value) (us : List Value) (Q : VK), Inv X pins σ H s → RelV x v → Vals xs us → r x xs H Q →
    wpAny (model X.prog X.w) X.A (call (.builtin id) (v :: us)) (EP X pins σ Q) X.xe s
section
variable {X : Cx} {a b : Expr} {ta tb : TE} {pos : Pos}
theorem IxR.or {r r' : R2} (h : IxR X r) (h' : IxR X r') : IxR X (fun x y H Q => r x y H Q ∨ r' x y H Q) := by
  intro value slice pins s σ H x y v u Q I rx ry q hs
  rcases q with q | q
  · exact h value slice pins s σ H x y v u Q I rx ry q hs
  · exact h' value slice pins s σ H x y v u Q I rx ry q hs
/-- a[b] -/
theorem pe_ix {r : R2} (hr : IxR X r) (ha : PE X a ta) (hb : PE X b tb) (hs : PlainIx b) : PE X (.Subscript a b pos) (tOp r ta tb) := by
  intro pins s σ H Q I h
  exact Subscript_ (binT ha hb I h fun v u s2 x y H2 I2 rx ry q => hr a b pins s2 σ H2 x y v u Q I2 rx ry q (hs _ _))

noncomputable def rIxL (K : PySem.W.Frag) : R2 := fun x y H Q => ∃ p xs i v, x = .ref p ∧ y = .int i ∧ SqL K H p xs ∧ atI xs i = some v ∧ Q v H
noncomputable def rIxT (K : PySem.W.Frag) : R2 := fun x y H Q => ∃ p xs i v, x = .ref p ∧ y = .int i ∧ SqT K H p xs ∧ atI xs i = some v ∧ Q v H
noncomputable def rIxS : R2 := fun x y H Q => ∃ z i c, x = .str z ∧ y = .int i ∧ z.length ≤ sizeLine ∧ atI z.cps.toList i = some c ∧ Q (.str ⟨#[c]⟩) H
theorem ix_list : IxR X (rIxL X.K) := by
  intro value slice pins s σ H x y v u Q I rx ry h hs
  obtain ⟨p, xs, i, z, rfl, rfl, hq, he, q⟩ := h
  cases rx
  obtain ⟨t, rfl⟩ := ry
  obtain ⟨its, r, pl, hz⟩ := I.list hq
  obtain ⟨j, h1, h2, h3, h4, h5⟩ := atI_get he
  obtain ⟨w, ew, rw'⟩ := r.get h2
  have hl := r.length
  have hn := line63
  have fin : EP X pins σ Q w s := ⟨z, H, I, rw', q⟩
  by_cases h0 : 0 ≤ i
  · have hj : i.toNat = j := by
      rw [seqIndex_of h0 h5] at h1
      exact Option.some.inj h1
    exact item_listR pl.isList h0 (by omega) (by rw [hj]; simpa using ew) fin hs
  · have hj : (i + (its.toArray.size : Int)).toNat = j := by
      rw [seqIndex_neg (by omega) h4] at h1
      rw [List.size_toArray, ← hl]
      exact Option.some.inj h1
    exact subscriptTail_builtinR (x := w) pl.isList.typeIs slot_list_getitem.lookup
      (wpAny_getItem_list_neg (Q := fun r s' => r = w ∧ EP X pins σ Q r s') pl.isList (by omega) (by rw [List.size_toArray] <;> omega) (by omega) (by rw [hj]; simpa using ew) ⟨rfl, fin⟩) hs
theorem ix_tup : IxR X (rIxT X.K) := by
  intro value slice pins s σ H x y v u Q I rx ry h hs
  obtain ⟨p, xs, i, z, rfl, rfl, hq, he, q⟩ := h
  cases rx
  obtain ⟨t, rfl⟩ := ry
  obtain ⟨its, r, pl, hz⟩ := I.tuple hq
  obtain ⟨j, h1, h2, h3, h4, h5⟩ := atI_get he
  obtain ⟨w, ew, rw'⟩ := r.get h2
  have hl := r.length
  have hn := line63
  have fin : EP X pins σ Q w s := ⟨z, H, I, rw', q⟩
  exact subscriptTail_builtinR (x := w) pl.typeIs slot_tuple_getitem.lookup
    (getItem_tuple (j := j) (Q := fun r s' => r = w ∧ EP X pins σ Q r s') pl (by omega) (by omega) (by rw [List.size_toArray, ← hl]; exact h1) (by simpa using ew) ⟨rfl, fin⟩) hs
theorem ix_str : IxR X rIxS := by
  intro value slice pins s σ H x y v u Q I rx ry h hs
  obtain ⟨z, i, c, rfl, rfl, hz, he, q⟩ := h
  obtain ⟨t, rfl⟩ := rx
  obtain ⟨t', rfl⟩ := ry
  obtain ⟨j, h1, h2, h3, h4, h5⟩ := atI_get he
  have hl : z.cps.toList.length = z.length := by simp [Str.length]
  rw [hl] at h1 h4 h5
  have hn := line63
  exact tail_any (typeIs_str s z t) slot_str_getitem.lookup (getItem_str (c := c) (by
    have e1 : decide (i < -(2 ^ 63 : Int)) = false := decide_eq_false (by omega)
    have e2 : decide (i ≥ 2 ^ 63) = false := decide_eq_false (by omega)
    rw [e1, e2, Bool.or_false]) (by rw [h1]; simpa using h2) ⟨.str ⟨#[c]⟩, H, I.tok _, ⟨_, rfl⟩, q⟩) hs
/-! ### xs[i] = v, any sign -/
/-- the list's object behind a store -/
theorem mapSeq_set (its : List Value) (n j : Nat) (u : Value) : Obj.mapSeq (·.setIfInBounds j u) { cls := .type "list", data := .seq its.toArray n } = { cls := .type "list", data := .seq (its.set j u).toArray n } := by
  simp [Obj.mapSeq]
theorem Inv.lst {pins : List (Addr × Obj)} {σ : St} {H : Hp} {s : Shared} {p : Addr} {xs : List V} (I : Inv X pins σ H s) (h : H p = some (.lst xs)) :
    ∃ (its : List Value) (n : Nat), Vals xs its ∧ s.heap.get? p = some { cls := .type "list", data := .seq its.toArray n } ∧ xs.length ≤ sizeLine := by
  obtain ⟨z, its, n, r, e⟩ := I.hok p _ h
  exact ⟨its, n, r, e, z⟩
/-- the list at p is written by an update of its object -/
theorem Inv.lstUpd {pins : List (Addr × Obj)} {σ : St} {H : Hp} {s : Shared} {p : Addr} {xs ys : List V} {its its' : List Value} {n n' : Nat} {f : Obj → Obj} (I : Inv X pins σ H s) (h : H p = some (.lst xs))
    (ho : s.heap.get? p = some { cls := .type "list", data := .seq its.toArray n }) (hf : f { cls := .type "list", data := .seq its.toArray n } = { cls := .type "list", data := .seq its'.toArray n' }) (r : Vals ys its') (hz : ys.length ≤ sizeLine) (t : Nat) :
    Inv X pins σ (upd H p (.lst ys)) { s with heap := s.heap.update p f, toks := t } := by
  have e : (s.heap.update p f).get? p = some { cls := .type "list", data := .seq its'.toArray n' } := by
    rw [Heap.get?_update_self f ho (by rw [hf] <;> rfl), hf]
  refine I.write (x := p) (e := p) (by rw [h]; trivial) (.inl rfl) (fun b u hb q => (Heap.get?_update_other _ _ (Ne.symm hb)).trans q) ⟨_, e⟩ ?_
  exact ⟨hz, its', n', r, e⟩
noncomputable def rSetL : V → V → V → Hp → (Hp → Prop) → Prop := fun o i v H Q => ∃ p xs k j, o = .ref p ∧ i = .int k ∧ H p = some (.lst xs) ∧ ixN xs.length k = some j ∧ Q (upd H p (.lst (xs.set j v)))
theorem set_list : PSet X rSetL := by
  intro pins s σ H o i v ov iv u Q I ro ri rv h
  obtain ⟨p, xs, k, j, rfl, rfl, hp, hj, q⟩ := h
  cases ro
  obtain ⟨t, rfl⟩ := ri
  obtain ⟨its, n, r, ho, hz⟩ := I.lst hp
  obtain ⟨h1, h2, h3, h4⟩ := ixN_seq hj
  have hl := r.length
  have hn := line63
  have I' : Inv X pins σ (upd H p (.lst (xs.set j v))) { s with heap := s.heap.update p (Obj.mapSeq (·.setIfInBounds j u)) } :=
    I.lstUpd hp ho (mapSeq_set its n j u) (r.set rv j) (by rw [List.length_set]; exact hz) s.toks
  by_cases h0 : 0 ≤ k
  · have hk : k.toNat = j := by
      rw [seqIndex_of h0 h4] at h1
      exact Option.some.inj h1
    exact PySem.W.ki_setAt ho h0 (by omega) (by rw [List.size_toArray, ← hl]; exact h4) (by rw [hk]; exact ⟨_, I', q⟩)
  · have hk : (k + (its.toArray.size : Int)).toNat = j := by
      rw [seqIndex_neg (by omega) h3] at h1
      rw [List.size_toArray, ← hl]
      exact Option.some.inj h1
    exact PySem.W.ki_setBack ho (by omega) (by rw [List.size_toArray, ← hl]; exact h3) (by omega) (by rw [hk]; exact ⟨_, I', q⟩)

/-! ### slices -/
theorem slice_bounds (lo hi : Option Int) (n : Nat) : (sliceBounds lo hi none n).1 = ((HT.sIx n 0 lo : Nat) : Int) ∧ (sliceBounds lo hi none n).2.1 = ((HT.sIx n n hi : Nat) : Int) ∧ (sliceBounds lo hi none n).2.2 = 1 := by
  refine ⟨?_, ?_, rfl⟩
  · cases lo with
    | none => simp [sliceBounds, HT.sIx]
    | some i =>
      simp only [sliceBounds, HT.sIx, Option.getD_none, show (1 : Int) > 0 by decide, if_true]
      by_cases h : i < 0
      · simp only [h, if_true] <;> omega
      · simp only [h, if_false] <;> omega
  · cases hi with
    | none => simp [sliceBounds, HT.sIx]
    | some i =>
      simp only [sliceBounds, HT.sIx, Option.getD_none, show (1 : Int) > 0 by decide, if_true]
      by_cases h : i < 0
      · simp only [h, if_true] <;> omega
      · simp only [h, if_false] <;> omega
theorem slicePick_cut (its : List Value) (lo hi : Option Int) : slicePick its.toArray lo hi none = ((its.drop (HT.sIx its.length 0 lo)).take (HT.sIx its.length its.length hi - HT.sIx its.length 0 lo)).toArray := by
  obtain ⟨h1, h2, h3⟩ := slice_bounds lo hi its.toArray.size
  unfold slicePick
  rw [h1, h2, h3]
  simp only [sliceRange_one, pick_run, List.size_toArray] <;> rfl
/-- xs[lo:hi] of a list: a new list -/
noncomputable def rSlL (K : PySem.W.Frag) : V → Option Int → Option Int → Hp → VK → Prop := fun x lo hi H Q => ∃ a xs, x = .ref a ∧ SqL K H a xs ∧ ∀ p, H p = none → Q (.ref p) (upd H p (.lst (cutV xs lo hi)))
theorem sl_list : SlR X (rSlL X.K) := by
  intro pins s σ H x v vl vu lo hi sl Q I rx hs pl pu h
  obtain ⟨a, xs, rfl, hx, q⟩ := h
  cases rx
  obtain ⟨its, r, ht, hz⟩ := I.list hx
  have hlen := r.length
  refine ⟨"list", _, slot_list_getitem.lookup, ht.isList.typeIs, ?_⟩
  refine wpAny_getItem_list_slice ht.isList hs pl pu .none (by simp) ?_ (by rw [List.size_toArray] <;> omega)
  rw [slicePick_cut, ← hlen]
  refine ⟨.ref s.heap.objs.size, _, I.laid (t' := s.toks) (o := .lst (cutV xs lo hi)) (fun b ob q => Heap.get?_push_of_some _ q) (Nat.le_refl _) ?_, rfl, q _ (I.hok.fresh (Nat.le_refl _))⟩
  exact ⟨Nat.le_trans (cutV_length xs lo hi) hz, _, 0, (r.drop (HT.sIx xs.length 0 lo)).take (HT.sIx xs.length xs.length hi - HT.sIx xs.length 0 lo), Heap.get?_push_size _ rfl⟩

/-! ### in, not in: flat items -/
/-! ### len, list(x), tuple(x) of any list or tuple that is read -/
theorem call_list_of : CallR X (.type "list") (fun xs H Q => ∃ p ys, xs = [.ref p] ∧ (SqL X.K H p ys ∨ SqT X.K H p ys) ∧ ∀ l, H l = none → Q (.ref l) (upd H l (.lst ys))) := by
  intro pins s σ H xs us Q I r h
  obtain ⟨p, ys, rfl, hq, q⟩ := h
  obtain ⟨u, rfl, rx⟩ := vals1 r
  cases rx
  have fin : ∀ (its : List Value), Vals ys its → ys.length ≤ sizeLine → ∀ (h' : Heap) (c' : Nat), (∀ b o', s.heap.get? b = some o' → h'.get? b = some o') →
      h'.get? s.heap.objs.size = some { cls := .type "list", dict := none, data := .seq its.toArray c', slots := #[] } → EP X pins σ Q (.ref s.heap.objs.size) { s with heap := h' } := fun its r' hz h' c' kp e =>
    ⟨.ref s.heap.objs.size, _, I.laid (t' := s.toks) kp (Nat.le_refl _) (show ObjOk X.prog X.w _ h' _ (.lst ys) from ⟨hz, its, c', r', e⟩), rfl, q _ (I.hok.fresh (Nat.le_refl _))⟩
  rcases hq with hq | hq
  · obtain ⟨its, r', pl, hz⟩ := I.list hq
    have hlen := r'.length
    obtain ⟨o, ho, hc, n, hd⟩ := pl.isList
    exact call_list_seq p (.inl rfl) ho hc hd (fun h' c' kp e => fin its r' hz h' c' kp e) (by simp only [List.size_toArray] <;> omega)
  · obtain ⟨its, r', pl, hz⟩ := I.tuple hq
    have hlen := r'.length
    obtain ⟨o, ho, hc, n, hd⟩ := pl
    exact call_list_seq p (.inr rfl) ho hc hd (fun h' c' kp e => fin its r' hz h' c' kp e) (by simp only [List.size_toArray] <;> omega)
theorem call_tuple_of : CallR X (.type "tuple") (fun xs H Q => ∃ p ys, xs = [.ref p] ∧ ((SqL X.K H p ys ∧ ∀ l, H l = none → Q (.ref l) (upd H l (.tup ys))) ∨ (SqT X.K H p ys ∧ Q (.ref p) H))) := by
  intro pins s σ H xs us Q I r h
  obtain ⟨p, ys, rfl, h⟩ := h
  obtain ⟨u, rfl, rx⟩ := vals1 r
  cases rx
  rcases h with ⟨hq, q⟩ | ⟨hq, q⟩
  · obtain ⟨its, r', pl, hz⟩ := I.list hq
    have hlen := r'.length
    refine call_tuple_list pl.isList (fun h' kp => ?_) (by simp only [List.size_toArray] <;> omega)
    have I1 : Inv X pins σ H { s with heap := h' } := I.kept (t' := s.toks) kp
    have I2 : Inv X pins σ (upd H h'.objs.size (.tup ys)) { s with heap := h'.push { cls := .type "tuple", data := .seq its.toArray } } :=
      I1.laid (t' := s.toks) (fun b o e => Heap.get?_push_of_some _ e) (Nat.le_refl _) (show ObjOk X.prog X.w _ _ _ (.tup ys) from ⟨hz, its, r', IsTup.new _ _⟩)
    exact ⟨.ref h'.objs.size, _, I2, rfl, q _ (I1.hok.fresh (Nat.le_refl _))⟩
  · obtain ⟨its, r', pl, hz⟩ := I.tuple hq
    exact call_tuple_same pl ⟨.ref p, H, I, rfl, q⟩

/-! ### the call of a builtin's method: o.m(..) -/
/-- the value is of that builtin type -/
noncomputable def tyV (K : PySem.W.Frag) (T : String) (x : V) (H : Hp) : Prop := match x with
  | .str _ => T = "str"
  | .int _ => T = "int"
  | .ref p => (T = "list" ∧ ∃ xs, SqL K H p xs) ∨ (T = "tuple" ∧ ∃ o, K.lookup p = some o ∧ o.cls = .type "tuple" ∧ o.dict = none) ∨
      (T = "dict" ∧ ((∃ kvs, H p = some (.dK kvs)) ∨ ∃ kvs, H p = some (.dT kvs))) ∨ (T = "set" ∧ ∃ S n, H p = some (.set S n))
  | _ => False
theorem tyV_is {pins : List (Addr × Obj)} {σ : St} {H : Hp} {s : Shared} {T : String} {x : V} {v : Value} (I : Inv X pins σ H s) (r : RelV x v) (ty : tyV X.K T x H) :
    s.TypeIs v T ∧ ∀ a, v = .ref a → ∃ ob, s.heap.get? a = some ob ∧ ob.dict = none := by
  cases x with
  | str z =>
    obtain ⟨t, rfl⟩ := r
    cases (show T = "str" from ty)
    exact ⟨typeIs_str s z t, fun _ e => nomatch e⟩
  | int i =>
    obtain ⟨t, rfl⟩ := r
    cases (show T = "int" from ty)
    exact ⟨typeIs_int s i t, fun _ e => nomatch e⟩
  | ref p =>
    cases r
    rcases ty with ⟨rfl, xs, hq⟩ | ⟨rfl, o, hk, hc, hd⟩ | ⟨rfl, hk⟩ | ⟨rfl, S, n, hk⟩
    · obtain ⟨its, _, pl, _⟩ := I.list hq
      refine ⟨pl.isList.typeIs, fun a e => ?_⟩
      cases e
      obtain ⟨o, n, e, c, hd, _⟩ := pl
      exact ⟨o, e, hd⟩
    · refine ⟨⟨o, I.kIn p o hk, hc⟩, fun a e => ?_⟩
      cases e
      exact ⟨o, I.kIn _ o hk, hd⟩
    · have z : ∃ o, s.heap.get? p = some o ∧ o.ExactDict := by
        rcases hk with ⟨kvs, hk⟩ | ⟨kvs, hk⟩
        · obtain ⟨_, _, _, _, o, _, _, e, ex, _⟩ := I.hok p _ hk
          exact ⟨o, e, ex⟩
        · obtain ⟨_, _, _, _, o, _, _, e, ex, _⟩ := I.hok p _ hk
          exact ⟨o, e, ex⟩
      obtain ⟨o, e, ex⟩ := z
      refine ⟨⟨o, e, ex.1⟩, fun a e2 => ?_⟩
      cases e2
      exact ⟨o, e, ex.2.1⟩
    · obtain ⟨o, _, _, _, e, ex, _⟩ := I.hok p _ hk
      refine ⟨⟨o, e, ex.1⟩, fun a e2 => ?_⟩
      cases e2
      exact ⟨o, e, ex.2.1⟩
  | _ => exact False.elim ty
noncomputable def tBM (K : PySem.W.Frag) (T : String) (r : V → List V → Hp → VK → Prop) (to : TE) (t : TA) : TE := fun σ H Q => to σ H fun x H1 => tyV K T x H1 ∧ t σ H1 fun xs H2 => r x xs H2 Q
variable {o e : Expr} {es : List Expr} {to : TE} {t : TA} {name : Str} {apos cpos : Pos} {T id : String} {r : V → List V → Hp → VK → Prop}
theorem pe_bm (pa : PlainAttrs T) (slot : Slot T name id) (hty : typeOf (.builtin id) = pure (.type "method_descriptor")) (hm : MtR X id r) (ho : PE X o to) (ha : PA X (e :: es) t)
    (hbase : attributeBase o name X.env (eval o X.env) = eval o X.env := by rfl)
    (hfew : ((backTo cpos (starEach (e :: es) X.env)).all (fun x => !x.1) && (backToKw cpos (keywordEach [] X.env)).all (fun x => x.1.isSome)
      && decide ((e :: es).length + ([] : List Keyword).length + (if ([] : List Keyword).isEmpty then 0 else 1) < 30)) = true := by rfl)
    (hline : (apos.endLine == cpos.line) = true := by rfl) (hs : starEach (e :: es) X.env = (false, eval e X.env) :: starEach es X.env := by rfl) (hplain : (backTo cpos (starEach es X.env)).any (·.1) = false := by rfl) :
    PE X (.Call (.Attribute o name apos) (e :: es) [] cpos) (tBM X.K T r to t) := by
  intro pins s σ H Q I h
  refine wpAny_Call_method_late hbase hfew hline rfl (thn (ho pins s σ H _ I h) fun v s1 ⟨x, H1, I1, r1, ty, q1⟩ => ?_)
  obtain ⟨h1, h2⟩ := tyV_is I1 r1 ty
  refine ⟨T, id, pa, slot, hty, h1, h2, ?_⟩
  have hA := ha cpos pins s1 σ H1 _ I1 q1
  rw [hs] at hA ⊢
  refine Calls.callWith_builtin (by show (false || (backTo cpos (starEach es X.env)).any (·.1)) = false; rw [hplain] <;> rfl) (Calls.evalArgs_plain ?_)
  exact thn hA fun us s2 ⟨vs, H2, I2, r2, q2⟩ => hm pins s2 σ H2 x vs v us Q I2 r1 r2 q2
/- xs.append(e), list.index on a module's tuple .. are MtR facts of 06m -/
end
end L2

namespace L2
open PySem PySem.Spec PyProof.Rows

noncomputable def MtM (X : Cx) (id : String) (r : V → List V → Hp → VK → Prop) : Prop :=
  ∀ (pins : List (Addr × Obj)) (s : Shared) (σ : St) (H : Hp) (x : V) (xs : List V) (v : Value) (us : List Value) (Q : VK), Inv X pins σ H s → RelV x v → Vals xs us → r x xs H Q →
    wpAny (model X.prog X.w) X.A (call (.builtin id) (v :: us)) (EP X pins σ Q) X.xe s

/-! ### lists of values -/
theorem Vals.one : ∀ {x : V} {us : List Value}, Vals [x] us → ∃ u, us = [u] ∧ RelV x u
  | _, _, .cons r .nil => ⟨_, rfl, r⟩
theorem Vals.two : ∀ {x y : V} {us : List Value}, Vals [x, y] us → ∃ u v, us = [u, v] ∧ RelV x u ∧ RelV y v
  | _, _, _, .cons r (.cons q .nil) => ⟨_, _, rfl, r, q⟩
section
variable {X : Cx} {pins : List (Addr × Obj)} {σ : St} {H : Hp} {s : Shared} {l b : Addr} {xs ys zs : List V}

/-! ### the two steps: a tracked list is rewritten, a new list is laid -/
theorem Inv.lset {its its' : List Value} {n : Nat} {f : Array Value → Array Value} {t' : Nat} (I : Inv X pins σ H s) (hH : H l = some (.lst xs))
    (e : s.heap.get? l = some { cls := .type "list", data := .seq its.toArray n }) (hf : f its.toArray = its'.toArray) (hv : Vals ys its') (hz : ys.length ≤ sizeLine) :
    Inv X pins σ (upd H l (.lst ys)) { s with heap := s.heap.update l (Obj.mapSeq f), toks := t' } := by
  have q := PySem.IsL.update e f
  rw [hf] at q
  refine I.write (x := l) (e := l) (by rw [hH]; exact trivial) (.inl rfl) (fun b' u hb hu => (Heap.get?_update_other s.heap (Obj.mapSeq f) (Ne.symm hb)).trans hu) ⟨_, q⟩ ?_
  exact ⟨hz, its', _, hv, q⟩
theorem Inv.lnew {its : List Value} {t' : Nat} (I : Inv X pins σ H s) (hv : Vals ys its) (hz : ys.length ≤ sizeLine) :
    Inv X pins σ (upd H s.heap.objs.size (.lst ys)) { s with heap := s.heap.push { cls := .type "list", data := .seq its.toArray }, toks := t' } :=
  I.laid (fun _ _ q => Heap.get?_push_of_some _ q) (Nat.le_refl _) ⟨hz, its, 0, hv, Heap.get?_push_size _ rfl⟩
theorem Inv.fresh (I : Inv X pins σ H s) : H s.heap.objs.size = none := I.hok.fresh (Nat.le_refl _)
theorem Inv.lstM (I : Inv X pins σ H s) (hH : H l = some (.lst xs)) : xs.length ≤ sizeLine ∧ ∃ (its : List Value) (n : Nat), Vals xs its ∧ xs.length = its.length ∧ s.heap.get? l = some { cls := .type "list", data := .seq its.toArray n } := by
  obtain ⟨z, its, n, r, e⟩ := I.hok l _ hH
  exact ⟨z, its, n, r, r.length, e⟩

theorem notLongL {n : Nat} (h : n ≤ sizeLine) : Builtin.List.listTooLong n = false := by
  unfold Builtin.List.listTooLong
  exact decide_eq_false (by omega)
end

section
variable {X : Cx}

/-! ### methods -/
noncomputable def rAppend : V → List V → Hp → VK → Prop := fun x vs H Q => ∃ l xs y, x = .ref l ∧ vs = [y] ∧ H l = some (.lst xs) ∧ xs.length < sizeLine ∧ Q .non (upd H l (.lst (xs ++ [y])))
theorem mt_append : MtM X "list.append" rAppend := by
  intro pins s σ H x vs v us Q I rx rv h
  obtain ⟨l, xs, y, rfl, rfl, hH, hz, q⟩ := h
  cases rx
  obtain ⟨u, rfl, ru⟩ := rv.one
  obtain ⟨z, its, n, r, hl, e⟩ := I.lstM hH
  refine call_meets F.slot_list_append ⟨_, e, rfl⟩ F.entry_list_append (F.args_list_append_2 _ _) (PySem.list_append l its.toArray n u (by rw [List.size_toArray]; omega)) ⟨e, ?_⟩
  refine ⟨.non, _, I.lset (its' := its ++ [u]) hH e (by simp) (r.append (.cons ru .nil)) ?_, rfl, q⟩
  rw [List.length_append, List.length_singleton]
  omega

noncomputable def rExtend : V → List V → Hp → VK → Prop := fun x vs H Q => ∃ l b xs zs, x = .ref l ∧ vs = [.ref b] ∧ H l = some (.lst xs) ∧ H b = some (.lst zs) ∧ xs.length + zs.length ≤ sizeLine ∧ Q .non (upd H l (.lst (xs ++ zs)))
theorem mt_extend : MtM X "list.extend" rExtend := by
  intro pins s σ H x vs v us Q I rx rv h
  obtain ⟨l, b, xs, zs, rfl, rfl, hH, hB, hz, q⟩ := h
  cases rx
  obtain ⟨u, rfl, ru⟩ := rv.one
  cases ru
  obtain ⟨z, its, n, r, hl, e⟩ := I.lstM hH
  obtain ⟨z2, its2, n2, r2, hl2, e2⟩ := I.lstM hB
  have hsz : its.toArray.size + its2.toArray.size ≤ sizeLine := by rw [List.size_toArray, List.size_toArray]; omega
  have hlong : ¬ (!its.toArray.isEmpty && Builtin.List.listTooLong (its.toArray.size + its2.toArray.size)) = true := by
    rw [notLongL hsz, Bool.and_false]
    exact Bool.false_ne_true
  refine call_meets F.slot_list_extend ⟨_, e, rfl⟩ F.entry_list_extend (F.args_list_extend_2 _ _)
    (AutoSeq1.list_extend_list_list_0 l its.toArray n b its2.toArray n2 hlong (by rw [List.size_toArray]; omega) (by omega)) ⟨e, e2, ?_⟩
  refine ⟨.non, _, I.lset (its' := its ++ its2) hH e (by simp) (r.append r2) ?_, rfl, q⟩
  rw [List.length_append]
  omega

/-! ### list + list, list += list, list * int -/
noncomputable def rCat : R2 := fun x y H Q => ∃ l b xs zs, x = .ref l ∧ y = .ref b ∧ H l = some (.lst xs) ∧ H b = some (.lst zs) ∧ xs.length + zs.length ≤ sizeLine ∧ ∀ p, H p = none → Q (.ref p) (upd H p (.lst (xs ++ zs)))
theorem op_cat : OpR X (binaryOp .Add) rCat := by
  intro pins s σ H x y v u Q I rx ry h
  obtain ⟨l, b, xs, zs, rfl, rfl, hH, hB, hz, q⟩ := h
  cases rx
  cases ry
  obtain ⟨z, its, n, r, hl, e⟩ := I.lstM hH
  obtain ⟨z2, its2, n2, r2, hl2, e2⟩ := I.lstM hB
  refine PySem.P.add_list e e2 ?_ (by rw [List.size_toArray, List.size_toArray]; omega)
  have ea : its.toArray ++ its2.toArray = (its ++ its2).toArray := by simp
  rw [ea]
  exact ⟨.ref _, _, I.lnew (t' := s.toks) (r.append r2) (by rw [List.length_append]; omega), rfl, q _ I.fresh⟩
/-! ### del xs[i] -/
end

/-! ### xs[a:b] = ys -/
section
variable {prog : Program} {w : World} {A : Around} {E : Value → Shared → Prop} {s : Shared}
set_option maxRecDepth 100000 in
end

section
variable {X : Cx}
end
end L2

namespace L2
open PySem PySem.Spec PyProof.Rows

/-! ### lists of pairs as tables -/
section
variable {κ : Type} [DecidableEq κ]
end


/-! ### a tracked dict, its keys ints and texts or tuples of these -/
theorem kV_is {P : Program} {w : World} {k : Key} {u : Value} (r : RelV (kV k) u) : (mixKind P w).is k u = true := by
  cases k with
  | inl i => obtain ⟨t, e⟩ := (show ∃ t, u = Value.int i t from r); subst e; exact mixKind_int P w i t
  | inr x => obtain ⟨t, e⟩ := (show ∃ t, u = Value.str x t from r); subst e; exact mixKind_str P w x t
section
variable {P : Program} {w : World} {H : Hp} {h : Heap} {a : Addr}
end

section
variable {X : Cx} {pins : List (Addr × Obj)} {σ : St} {H : Hp} {s : Shared} {a : Addr} {y v : V} {u r : Value} {o : Option V} {A : Around} {E : Value → Shared → Prop}

end

section
variable {X : Cx} {pins : List (Addr × Obj)} {σ : St} {H : Hp} {s : Shared} {a : Addr} {kvs : List (Key × V)} {k : Key} {u : Value} {A : Around} {E : Value → Shared → Prop}
end


/-! ### readings and rules -/
/-- the element of a subscription, not a slice -/
noncomputable def NoSl (i : Expr) : Prop := ∀ ov iv, subscripted i false ov iv = operate [ov, iv] (getItem ov iv)
theorem subD_of {prog : Program} {w : World} {A : Around} {E : Value → Shared → Prop} {s : Shared} {env : Env} {value slice : Expr} {pos : Pos} {T id : String} {Q : Value → Shared → Prop}
    (hl : typeLookup (.type T) "__getitem__" = pure (some (.builtin id))) (hs : NoSl slice)
    (h : wpAny (model prog w) A (eval value env) (fun o s₁ => wpAny (model prog w) A (eval slice env) (fun i s₂ => s₂.TypeIs o T ∧ wpAny (model prog w) A (getItem o i) Q E s₂) E s₁) E s) :
    wpAny (model prog w) A (eval (.Subscript value slice pos) env) Q E s := by
  refine Subscript_ (wpAny_mono h (fun o s₁ h₁ => wpAny_mono h₁ (fun i s₂ h₂ => ?_) fun _ _ x => x) fun _ _ x => x)
  obtain ⟨hT, h₂⟩ := h₂
  unfold subscriptTail
  refine wpAny_bind ?_
  rw [getitemInPython_of_ne hT.not_modules]
  refine wpAny_bind (wpAny_specialOf hT hl ?_)
  have fin : wpAny (model prog w) A (subscripted slice false o i) (fun r s₃ => wpAny (model prog w) A (letTemporaryGo value o r >>= fun _ => pure r) Q E s₃) E s₂ := by
    rw [hs o i]
    exact wpAny_operating (wpAny_mono h₂ (fun r s₃ h₃ => wpAny_bind (wpAny_letTemporaryGo (wpAny_pure h₃))) fun _ _ x => x)
  first
    | exact wpAny_pure (wpAny_bind fin)
    | exact wpAny_bind (wpAny_pure (wpAny_bind fin))
    | exact wpAny_bind fin

section
variable {X : Cx} {o i e value : Expr} {pos pos' tpos : Pos} {td ty tv : TE}
end


/-! ### displays -/
section
variable {X : Cx} {pos : Pos}
end

/-! ### methods -/
section
variable {X : Cx} {pins : List (Addr × Obj)} {σ : St} {H : Hp} {s : Shared} {a : Addr} {y d : V} {u r : Value} {o : Option V} {A : Around} {E : Value → Shared → Prop}
end

section
variable {X : Cx} {o e f : Expr} {apos cpos : Pos} {td ty tx : TE}
end

/-! ### dict(d): a copy -/
section
variable {X : Cx} {pins : List (Addr × Obj)} {σ : St} {H : Hp} {s : Shared} {a : Addr} {kvs : List (Key × V)} {A : Around} {E : Value → Shared → Prop}
end


section
variable {X : Cx} {pins : List (Addr × Obj)} {σ : St} {H : Hp} {s : Shared} {a : Addr} {y : V} {u : Value} {A : Around} {E : Value → Shared → Prop}
end
end L2

namespace Att
open PySem PySem.W PySem.Calls PyProof.Rows

/-! ### the script -/
theorem ints_of_wellAll {P : Params} {h : Heap} : ∀ (ns : List Int) (vs : List Value), WellAll P h vs (ns.map WData.int) → IntsAre vs ns := by
  intro ns
  induction ns with
  | nil =>
    intro vs w
    rw [List.map_nil] at w
    cases w
    exact .nil
  | cons n ns ih =>
    intro vs w
    rw [List.map_cons] at w
    cases w with
    | cons a b =>
      cases a
      exact .cons _ _ (ih _ b)

theorem script_of {l : OpenLaw} {n : Nat} (hn : l.most = some n) {P : Params} {h : Heap} {args : List WData} {vals : List Value}
    (hpre : l.row.toRowW.claim.pre args = true) (hwl : WellAll P h vals args) :
    ∃ a vs ns, vals = [Value.ref a] ∧ args = [WData.list (ns.map WData.int)] ∧ h.get? a = some { cls := .type "list", data := .seq vs.toArray } ∧ IntsAre vs ns ∧ ns.length ≤ n := by
  have hsh : WShape.hasAll [] args [.list .int] = true := (pre_splitW hpre).1
  have hc : l.pre.holds [] { args := args } = true := (pre_splitW hpre).2
  obtain ⟨d, r, rfl, h1, h2⟩ := hasAllW_cons hsh
  obtain rfl := hasAllW_nil h2
  obtain ⟨xs, rfl, h3⟩ := hasW_list h1
  obtain ⟨ns, rfl⟩ := items_int h3
  have hlen : ns.length ≤ n := by
    unfold OpenLaw.pre at hc
    have h4 : (WTm.not (.lt (.lit (.int (n : Int))) (.len (.arg 0)))).holds [] { args := [.list (ns.map .int)] } = true := by
      have h4 := (holds_andW hc).1
      rw [hn] at h4
      exact h4
    have h5 := condW_of h4 (w_not (w_lt w_lit (w_len_list (w_arg rfl))))
    rw [List.length_map] at h5
    refine Nat.le_of_not_lt fun q => ?_
    have q' : (n : Int) < ((ns.length : Nat) : Int) := by omega
    first
      | (rw [decide_eq_true q'] at h5; exact absurd h5 (by decide))
      | (simp at h5; omega)
  cases hwl with
  | cons w1 w2 =>
    cases w2
    cases w1 with
    | list ho hall => exact ⟨_, _, ns, rfl, rfl, ho, ints_of_wellAll ns _ hall, hlen⟩

theorem post_true (l : OpenLaw) (args : List WData) : l.row.toRowW.claim.post args (.bool true) args = true :=
  postW_of (r := l.row.toRowW) (X := (true == true))
    (show WShape.has [] (.bool true) .bool = true by first | rfl | decide | simp [WShape.has, WShape.arms, WShape.armsAll])
    (show (WTm.eq .res (.lit (.bool true))).value [] { args := args, res := some (.bool true), after := args } = some (.bool (true == true)) from w_eq_bool (w_res rfl) w_lit) rfl

/-! ### the attachment: holds_open's last premise (the goal 'hc' behind k_head) from a wpAny of the law's body -/
/-- the same from a codeAny of the CALL (for a layer whose function contracts speak of calls) -/
theorem attach_call {l : OpenLaw} {n : Nat} {q : Program} {loose : List Str} {XP : (Str → Option Value) → Heap → Prop} {YP : World → Heap → Prop} {d : DefRec}
    (hn : l.most = some n) (hdf : d.params.defaults = [])
    (call : ∀ (w : World) (s₀ s₁ : Shared) (mg mb : Str → Option Value) (fa : Addr) (o : Obj) (pm cd doc : Value) (a : Addr) (vs : List Value) (ns : List Int),
      Ground q loose [] XP w s₀ mg mb s₁.heap → YP w s₁.heap →
      s₁.heap.get? fa = some o → o.data = .func (docDef d.name d.params d.body d.scope pm cd doc) → s₁.heap.CodeRec cd d.name → mg d.name = some (.ref fa) →
      s₁.heap.get? a = some { cls := .type "list", data := .seq vs.toArray } → IntsAre vs ns → ns.length ≤ n → s₁.gens = #[] →
      codeAny (model l.prog w) callerA (.call (.ref fa) ⟨[.ref a], []⟩) (fun r s' => r = .ok (.ret (.bool true)) ∧ OldK s₁.heap s'.heap ∧ s'.os = s₁.os ∧ AllBare s'.gens) s₁) :
    WalkO q loose XP YP l.row.toRowW d [] (fun f vs => PySem.call f vs) := by
  intro w s₀ s₁ mg mb G Y fa o pm cd doc dV kV ho hd hcd hD hmg hg args vals as hpre hlay hrd hwl hlo
  obtain rfl : dV = .none := Dflts.none hD hdf
  obtain rfl : kV = .none := Dflts.noKw hD
  obtain ⟨a, vs, ns, rfl, rfl, hobj, hints, hlen⟩ := script_of hn hpre hwl
  refine enter_call (codeAny_mono (call w s₀ s₁ mg mb fa o pm cd doc a vs ns G Y ho (fd_plain hd) hcd hmg hobj hints hlen hg) fun r s' hq => ?_)
  obtain ⟨rfl, h2, h3, h4⟩ := hq
  exact ⟨.inl ⟨.bool true, .bool true, [], rfl, fun _ => rfl, .bool true, post_true l _, fun _ => ⟨List.Pairwise.nil, fun _ hm => (nomatch hm)⟩⟩, h2, h3, h4⟩

/-! ### rules over ANY heap (no ledger) from facts about the written part K: the library's own take a ledger (News) for what they write -/
section
variable {prog : Program} {w : World} {A : Around} {E : Value → Shared → Prop} {s : Shared} {K : Frag}

/-! the whole heap as the ledger: makes every rule that writes through a ledger a rule over any heap -/
noncomputable def ledger (h : Heap) (L d : Addr) : List (Addr × Obj) := (List.range h.objs.size).filterMap fun a => if a = L ∨ a = d then none else (h.get? a).map fun o => (a, o)
end
end Att

namespace L2
open PySem PySem.Spec PyProof.Rows

theorem vals_ints : ∀ {vs : List Value} {ns : List Int}, IntsAre vs ns → Vals (ns.map V.int) vs
  | _, _, .nil => .nil
  | _, _, .cons n t h => .cons ⟨t, rfl⟩ (vals_ints h)

/-- nothing is tracked but the script, known to the object (or it is an object of the module) -/
noncomputable def Only (H : Hp) : Prop := ∀ b, H b = none ∨ ∃ o xs, H b = some (.frz o (.lst xs))

/-- THE HEAD: the law's promise, at the heap behind the top. F, the promise of the law's def, may use that base is part of the heap (so K.In base, base.Ns mainGlobals mg stand in Mod) -/
theorem law_call {P : Program} {w : World} {K : PySem.W.Frag} {mg mb : Str → Option Value} {CX : CXT} {k : Nat} {fa a : Addr} {fd : FuncData} {x : Str} {sp : Sp} {s₁ : Shared} {vs : List Value} {ns : List Int}
    (KX : K.In s₁.heap) (hns : s₁.heap.Ns mainGlobals mg) (hb : s₁.heap.Ns builtinsNs mb) (hbb : ∀ x : Str, x ≠ "__name__" → mb x = bootBuiltins x) (hlim : s₁.heap.NoLimit) (hg : s₁.gens = #[])
    (ha : s₁.heap.get? a = some { cls := .type "list", data := .seq vs.toArray }) (hi : IntsAre vs ns) (hl : ns.length ≤ sizeLine) (hr : Room k callerA)
    (F : ∀ base : Heap, K.In base → base.Ns mainGlobals mg → FnOk P w K mg base CX k fa fd [x] sp) (hbind : ∀ (s : Shared) (u : Value), BindsTo s fd ⟨[u], []⟩ [(x, u)])
    (hsp : ∀ H : Hp, Only H → SqL K H a (ns.map V.int) → sp [.ref a] H (fun v _ => v = .bl true) fun _ _ _ => False)
    (hCX : ∀ H e s', CX [] H s₁ (fun _ _ _ => False) e s' → False) :
    codeAny (model P w) callerA (.call (.ref fa) ⟨[.ref a], []⟩) (fun r s' => r = .ok (.ret (.bool true)) ∧ OldK s₁.heap s'.heap ∧ s'.os = s₁.os ∧ AllBare s'.gens) s₁ := by
  have rv := vals_ints hi
  have lenV := hi.length
  -- from an abstract heap in which nothing but the script may be tracked
  have core : ∀ H : Hp, Only H → SqL K H a (ns.map V.int) → HOk P w H s₁.heap → (∀ b, H b ≠ none → b = a) → (H a ≠ none → K.lookup a = none) →
      codeAny (model P w) callerA (.call (.ref fa) ⟨[.ref a], []⟩) (fun r s' => r = .ok (.ret (.bool true)) ∧ OldK s₁.heap s'.heap ∧ s'.os = s₁.os ∧ AllBare s'.gens) s₁ := by
    intro H hO hS hok hA hK
    have base_of : ∀ {b : Addr} {o : Obj}, s₁.heap.get? b = some o → H b = none → (hidT s₁.heap H).get? b = some o := fun e n => hidT_get e n
    have noA : ∀ {b : Addr} {o : Obj} {es : Array DictEntry} {ep : Nat}, s₁.heap.get? b = some o → o.data = .dict es ep → H b = none := fun {b o es ep} e d => by
      cases q : H b with
      | none => rfl
      | some u =>
        have e' : b = a := hA b (by rw [q]; simp)
        subst e'
        rw [ha] at e; cases e
        have d' : Data.seq vs.toArray _ = Data.dict es ep := d
        cases d'
    have nsK : ∀ {b : Addr} {m : Str → Option Value}, s₁.heap.Ns b m → (hidT s₁.heap H).Ns b m := fun {b m} ⟨o, es, ep, e, d, r⟩ => ⟨o, es, ep, base_of e (noA e d), d, r⟩
    have hKb : K.In (hidT s₁.heap H) := fun b o e => base_of (KX b o e) (by
      cases q : H b with
      | none => rfl
      | some u =>
        have e' : b = a := hA b (by rw [q]; simp)
        subst e'
        rw [hK (by rw [q]; simp)] at e; cases e)
    have hM : Mod K mg (hidT s₁.heap H) := ⟨hKb, nsK hns, ⟨mb, nsK hb, hbb⟩, let ⟨mc, h1, h2⟩ := hlim; ⟨mc, nsK h1, h2⟩⟩
    have e0 : Env0 P w K mg (hidT s₁.heap H) callerA [] s₁ H := ⟨rfl, hM, fun b o e => of_hidT e, Nat.le_of_eq (hidT_size _ _), trivial, fun b hb => absurd (show b ∈ ([] : List Addr) from hb) (by simp), hok, .of_eq hg⟩
    refine codeAny_mono ((F _ hKb (nsK hns)).run callerA [] s₁ H ⟨[.ref a], []⟩ [.ref a] [.ref a] _ _ hr e0 (hbind s₁ (.ref a)) (.cons rfl .nil) (hsp H hO hS)) fun r s' h => ?_
    cases r with
    | error e => exact (hCX H e s' h).elim
    | ok fl =>
      cases fl with
      | next => exact False.elim h
      | brk => exact False.elim h
      | cont => exact False.elim h
      | ret u =>
        obtain ⟨v, H', os, bare, un, hok', r', q⟩ := h
        have q' : v = .bl true := q
        subst q'
        obtain rfl : u = Value.bool true := r'
        refine ⟨rfl, OldK.of_keep fun b o e => ?_, os, bare⟩
        cases q : H b with
        | none => exact un.keep b o e q (by intro z; exact absurd (show b ∈ ([] : List Addr) from z) (by simp)) (by simp)
        | some u =>
          rcases hO b with z | ⟨ob, xs, z⟩
          · rw [q] at z; cases z
          · have z2 := un.frzs b ob _ z
            obtain ⟨e1, _⟩ := hok b _ z
            obtain ⟨e2, _⟩ := hok' b _ z2
            rw [e] at e1; cases e1
            exact e2
  cases hk : K.lookup a with
  | some o =>
    -- the script is one of the module's own objects
    have e := KX a o hk
    rw [ha] at e
    cases e
    refine core (fun _ => none) (fun _ => .inl rfl) (.inr ⟨_, vs.toArray, _, hk, rfl, rfl, rfl, by rw [List.size_toArray, lenV]; exact hl, by simpa using rv⟩) (fun b u z => by have z' : (none : Option HO) = some u := z; cases z') (fun b z => absurd rfl z) fun z => absurd rfl z
  | none =>
    refine core (fun b => if b = a then some (.frz { cls := .type "list", data := .seq vs.toArray } (.lst (ns.map V.int))) else none) (fun b => ?_) (.inl (.inr ⟨{ cls := .type "list", data := .seq vs.toArray }, if_pos rfl⟩)) (fun b u z => ?_) (fun b z => ?_) fun _ => hk
    · by_cases hb : b = a
      · exact .inr ⟨_, _, if_pos hb⟩
      · exact .inl (if_neg hb)
    · by_cases hb : b = a
      · have z' := (if_pos hb).symm.trans z
        cases z'
        subst hb
        exact ⟨ha, by rw [List.length_map]; exact hl, vs, _, rv, ha⟩
      · have z' := (if_neg hb).symm.trans z
        cases z'
    · by_cases hb : b = a
      · exact hb
      · exact absurd (if_neg hb) z
end L2

namespace L2
open PySem PySem.Spec PyProof.Rows

noncomputable abbrev KOf {K : PySem.W.Frag} {h : Heap} (_ : K.In h) : PySem.W.Frag := K

/-- the goal that k_head leaves (case hc), from the law's promise. F gives the function object fd (K's own) once, then the promise over every base -/
theorem walk_of {l : PySem.W.OpenLaw} {n k : Nat} {q : Program} {loose : List Str} {XP : (Str → Option Value) → Heap → Prop} {YP : World → Heap → Prop} {d : DefRec} {K : Params → PySem.W.Frag} {CX : World → CXT} {sp : World → Sp} {x : Str}
    (hn : l.most = some n) (hn2 : n ≤ sizeLine) (hdf : d.params.defaults = []) (hr : Room k callerA)
    (hY : ∀ (w : World) (h : Heap), YP w h → (K w.params).In h)
    (F : ∀ (w : World) (mg : Str → Option Value) (fa : Addr) (h : Heap), (K w.params).In h → h.Ns mainGlobals mg → mg d.name = some (.ref fa) →
      ∃ fd : FuncData, (∀ (s : Shared) (u : Value), BindsTo s fd ⟨[u], []⟩ [(x, u)]) ∧
        ∀ base : Heap, (K w.params).In base → base.Ns mainGlobals mg → FnOk l.prog w (K w.params) mg base (CX w) k fa fd [x] (sp w))
    (hsp : ∀ (w : World) (H : Hp) (a : Addr) (ns : List Int), ns.length ≤ n → Only H → SqL (K w.params) H a (ns.map V.int) → sp w [.ref a] H (fun v _ => v = .bl true) fun _ _ _ => False)
    (hCX : ∀ (w : World) (H : Hp) (s : Shared) (e : Value) (s' : Shared), CX w [] H s (fun _ _ _ => False) e s' → False) :
    PySem.W.WalkO q loose XP YP l.row.toRowW d [] (fun f vs => PySem.call f vs) := by
  refine Att.attach_call hn hdf fun w s₀ s₁ mg mb fa o pm cd doc a vs ns G Y ho hd hcd hmg hobj hints hlen hg => ?_
  have KX := hY w _ Y
  obtain ⟨fd, hb, hF⟩ := F w mg fa _ KX G.T.g hmg
  exact law_call KX G.T.g G.T.b G.T.builtins G.T.nolimit hg hobj hints (Nat.le_trans hlen hn2) hr hF hb (fun H hO hS => hsp w H a ns hlen hO hS) fun H e s' => hCX w H s₁ e s'
end L2

/- THE LAST THEOREM (shape; LID, My.* are yours):
   My.Adr: a structure of the addresses that your layer names (classes, functions); My.Txt K t: a structure (Prop) of the equations over K;
   My.txt_mk : {K} {implicit addresses ..} (e1 : nsIn K mainGlobals "law" = some (some (.ref f))) (e2 : K.lookup f = some ⟨oc, od, .func (fnOf "law" "law" params body scope dV kV doc pm an cdv ct), sl⟩) (e3 : codeIn K cdv "law" = true) .. : ∃ t, My.Txt K t

set_option maxRecDepth 100000 in
set_option maxHeartbeats 0 in
theorem PySem.Challenge.cw_LID_holds : PySem.Challenge.rw_LID.Holds := by
  w_on; o_law; k_head; (case hw => w_witness2)
  k_fill
  refine L2.walk_of (l := PySem.Challenge.rw_LID) (n := 63) (k := 40) (x := "script") (CX := fun w => ..) (sp := fun _ => My.sp_law) rfl (by decide) rfl ⟨rfl, by decide, by decide⟩ (fun w h Y => PySem.W.kIn_of Y) ?F ?S ?C
  case F =>
    intro w mg fa h KX G hmg
    have T : ∃ t, My.Txt (L2.KOf KX) t := by
      dsimp only [L2.KOf]                          -- K must stand as «<heap const> w.params» for k_is
      refine' My.txt_mk ?e1 ?e2 ?e3 ..
      (case e1 => PySem.W.k_is)                    -- in the order: a name -> its address -> its object -> its parts
      (case e2 => PySem.W.k_is)
      ..
    obtain ⟨t, T⟩ := T
    have e0 := hmg.symm.trans (PySem.W.mg_of KX G T.law)
    cases e0                                       -- fa is the law's own address
    exact ⟨_, fun s u => .of_eq rfl, fun base kb nb => My.law_fn T kb nb⟩     -- if «.of_eq rfl» comes too early: refine' ⟨_, ?b, fun base kb nb => My.law_fn T kb nb⟩; exact fun s u => .of_eq rfl
  case S => exact fun w H a ns hl hO hS => ..
  case C => exact ..
(the tactic k_is has no namespace: write k_is) -/

/-! SHORT WORDS over the layer: a def of the text, its body, what a loop and a test want. -/
namespace L2
open PySem PySem.Spec PyProof.Rows

/-! ### the text by places -/
noncomputable def defArgs (s : Stmt) : Arguments := match s with
  | .FunctionDef _ a _ _ _ _ _ _ _ _ => a
  | _ => { posonlyargs := [], args := [], vararg := none, kwonlyargs := [], kw_defaults := [], kwarg := none, defaults := [] }
noncomputable def defBody (s : Stmt) : List Stmt := match s with
  | .FunctionDef _ _ b _ _ _ _ _ _ _ => b
  | _ => []
noncomputable def defScope (s : Stmt) : Scope := match s with
  | .FunctionDef _ _ _ _ _ _ sc _ _ _ => sc
  | _ => { kind := .function, names := [], isGenerator := false, isCoroutine := false }

/-! ### no exception leaves a def -/
noncomputable abbrev CX0 : CXT := fun _ _ _ _ _ _ => False
noncomputable abbrev E0 : XK := fun _ _ _ => False
theorem pass0 {X : Cx} : Passes CX0 X E0 := fun _ _ _ _ _ _ _ h => h.elim

/-! ### a def (or method) of the text as it stands behind the top -/
structure Fun (K : PySem.W.Frag) (x qual : Str) (st : Stmt) (f : Addr) (fd : FuncData) : Prop where
  ex : ∃ (oc : Value) (od : Option Addr) (kV doc pm : Value) (an : Option Addr) (cdv ct : Value) (osl : Array (Option Value)),
    fd = PySem.W.fnOf x qual (defArgs st) (defBody st) (defScope st) .none kV doc pm an cdv ct ∧ K.lookup f = some ⟨oc, od, .func fd, osl⟩ ∧ PySem.W.codeIn K cdv qual = true
  kp : PySem.W.keepIn K (.ref f) = true
section
variable {P : Program} {w : World} {K : PySem.W.Frag} {mg : Str → Option Value} {base : Heap}
/-- THE RULE for a def: its body as a term of rules, and the reading of that term -/
theorem Fun.ok {x qual : Str} {st : Stmt} {f : Addr} {fd : FuncData} {N ps : List Str} {k : Nat} {sp : Sp} (F : Fun K x qual st f fd) (S : FnScope N ps (defScope st)) (len : ∀ vs H Q E, sp vs H Q E → vs.length = ps.length)
    (hbody : ∀ (cdv : Value) (A : Around) (outer : List Env) (s : Shared) (H : Hp) (vs : List V) (Q : VK) (E : XK), Room k (A.deeper (envOfC qual (defScope st) s.heap.objs.size f cdv)) → sp vs H Q E →
      ∃ t, PSs (cxOf CX0 P w K mg base N qual (defScope st) f cdv A outer s H E).nox (defBody st) t ∧ t { nx := fun _ H' => Q .non H', rt := Q } (start N vs) H) : FnOk P w K mg base CX0 (k + 1) f fd ps sp := by
  obtain ⟨oc, od, kV, doc, pm, an, cdv, ct, osl, rfl, lk, hcd⟩ := F.ex
  refine fn_of lk hcd S len fun A outer s H vs Q E hr hsp => ?_
  obtain ⟨t, h, q⟩ := hbody cdv A outer s H vs Q E hr hsp
  exact ⟨t, h.nox, q⟩
/-- how its arguments bind (no defaults): h is «fun _ _ _ _ _ _ us hl => match us, hl with | [_, _], _ => rfl», one _ a parameter -/
theorem Fun.binds {x qual : Str} {st : Stmt} {f : Addr} {fd : FuncData} {ps : List Str} (F : Fun K x qual st f fd)
    (h : ∀ (kV doc pm : Value) (an : Option Addr) (cdv ct : Value) (us : List Value), us.length = ps.length → bindArgs (PySem.W.fnOf x qual (defArgs st) (defBody st) (defScope st) .none kV doc pm an cdv ct) ⟨us, []⟩ = pure (ps.zip us)) : Binds K fd ps [] := by
  obtain ⟨oc, od, kV, doc, pm, an, cdv, ct, osl, rfl, lk, hcd⟩ := F.ex
  exact .all (h kV doc pm an cdv ct)
theorem fun_mk {x qual : Str} {st : Stmt} {f : Addr} {oc : Value} {od an : Option Addr} {osl : Array (Option Value)} {kV doc pm cdv ct : Value} (l : K.lookup f = some ⟨oc, od, .func (PySem.W.fnOf x qual (defArgs st) (defBody st) (defScope st) .none kV doc pm an cdv ct), osl⟩)
    (c : PySem.W.codeIn K cdv qual = true) (k : PySem.W.keepIn K (.ref f) = true) : Fun K x qual st f (PySem.W.fnOf x qual (defArgs st) (defBody st) (defScope st) .none kV doc pm an cdv ct) := ⟨⟨oc, od, kV, doc, pm, an, cdv, ct, osl, rfl, l, c⟩, k⟩
end
/-! ### expressions in short: the name that stands in the i-th slot -/
section
variable {X : Cx}
theorem pv (i : Nat) {x : Str} {pos : Pos} (hN : X.N[i]? = some x := by rfl) (hv : Vis X.env.scope x := by first | exact Or.inl rfl | exact Or.inr (Or.inl rfl) | exact Or.inr (Or.inr rfl)) (hd : (x == ("__debug__" : Str)) = false := by decide)
    (hcd : (x == ("__classdict__" : Str)) = false := by decide) : PE X (.Name x pos) (tVar i) := pe_var hN hv hd hcd
end

/-! ### tests -/
theorem iteF {A B : Prop} (h : B) : if false = true then A else B := by
  rw [if_neg Bool.false_ne_true]
  exact h
theorem iteT {A B : Prop} (h : A) : if true = true then A else B := by
  rw [if_pos rfl]
  exact h
theorem iteNS {c A B : Prop} [Decidable c] (hc : c) (h : B) : if (!decide c) = true then A else B := by
  rw [decide_eq_true hc]
  exact iteF h

/-! ### heaps -/
/-- all that was tracked is as it was -/
noncomputable def Same (H H' : Hp) : Prop := ∀ b o, H b = some o → H' b = some o
theorem Same.refl (H : Hp) : Same H H := fun _ _ h => h
theorem Same.trans {H H1 H2 : Hp} (a : Same H H1) (b : Same H1 H2) : Same H H2 := fun c o h => b c o (a c o h)
theorem Same.free {H H' : Hp} (e : Same H H') {l : Addr} (h : H' l = Option.none) : H l = Option.none := by
  cases q : H l with
  | none => rfl
  | some o =>
    rw [e l o q] at h
    cases h
theorem Same.seq {K : PySem.W.Frag} {H H' : Hp} {a : Addr} {xs : List V} (e : Same H H') (h : SqL K H a xs) : SqL K H' a xs := by
  rcases h with (h | ⟨o, h⟩) | h
  · exact .inl (.inl (e _ _ h))
  · exact .inl (.inr ⟨o, e _ _ h⟩)
  · exact .inr h

/-! ### a dict's pairs: keys that differ -/
section
variable {κ : Type} [DecidableEq κ]
end
end L2

end
section
set_option Elab.async false
set_option linter.all false
set_option maxRecDepth 100000
set_option maxHeartbeats 4000000
namespace L2
open PySem PySem.Spec PyProof.Rows

/-! ### comprehensions: the block -/
theorem closure_go (env : Env) : ∀ (names : List (Str × NameKind)) (acc : List (Str × Addr)),
    (∀ y ∈ names, y.2 = .free → ∃ c, env.cells.lookup y.1 = some c) →
    ∃ cl : List (Str × Addr), (forIn names acc fun (x : Str × NameKind) (r : List (Str × Addr)) => (match x with
        | (name, kind) => if (kind == NameKind.free) = true then do
            let a ← cellOf env name
            pure (ForInStep.yield ((name, a) :: r))
          else pure (ForInStep.yield r) : Sem (ForInStep (List (Str × Addr))))) = (pure cl : Sem (List (Str × Addr))) ∧
      (∀ x c, cl.lookup x = some c → acc.lookup x = some c ∨ env.cells.lookup x = some c) ∧
      (∀ x, (acc.lookup x).isSome = true ∨ (x, NameKind.free) ∈ names → (cl.lookup x).isSome = true)
  | [], acc, _ => ⟨acc, by simp, fun x c h => .inl h, fun x h => h.elim id fun z => nomatch z⟩
  | (n, k) :: r, acc, h => by
    by_cases hk : k = .free
    · subst hk
      obtain ⟨c, hc⟩ := h (n, .free) List.mem_cons_self rfl
      obtain ⟨cl, e, h1, h2⟩ := closure_go env r ((n, c) :: acc) fun y hy => h y (List.mem_cons_of_mem _ hy)
      refine ⟨cl, ?_, fun x c' z => ?_, fun x z => ?_⟩
      · rw [List.forIn_cons]
        have q : cellOf env n = pure c := by unfold cellOf; rw [hc]
        simp only [q, beq_self_eq_true, if_true, pure_bind]
        exact e
      · rcases h1 x c' z with z | z
        · rw [List.lookup_cons] at z
          by_cases hx : x = n
          · subst hx
            simp at z
            subst z
            exact .inr hc
          · have hb : (x == n) = false := by simpa using hx
            rw [hb] at z
            exact .inl z
        · exact .inr z
      · refine h2 x ?_
        rw [List.lookup_cons]
        by_cases hx : x = n
        · subst hx
          left
          simp
        · have hb : (x == n) = false := by simpa using hx
          rw [hb]
          rcases z with z | z
          · exact .inl z
          · rcases List.mem_cons.mp z with z | z
            · cases z
              exact absurd rfl hx
            · exact .inr z
    · obtain ⟨cl, e, h1, h2⟩ := closure_go env r acc fun y hy => h y (List.mem_cons_of_mem _ hy)
      refine ⟨cl, ?_, h1, fun x z => h2 x ?_⟩
      · rw [List.forIn_cons]
        have hb : (k == NameKind.free) = false := by simpa using hk
        simp only [hb, Bool.false_eq_true, if_false, pure_bind]
        exact e
      · rcases z with z | z
        · exact .inl z
        · rcases List.mem_cons.mp z with z | z
          · cases z
            exact absurd rfl hk
          · exact .inr z
theorem closure_of {scope : Scope} {env : Env} (h : ∀ y ∈ scope.names, y.2 = .free → ∃ c, env.cells.lookup y.1 = some c) :
    ∃ cl, closureFor scope env = pure cl ∧ (∀ x c, cl.lookup x = some c → env.cells.lookup x = some c) ∧ ∀ x, (x, NameKind.free) ∈ scope.names → ∃ c, cl.lookup x = some c := by
  obtain ⟨cl, e, h1, h2⟩ := closure_go env scope.names [] h
  refine ⟨cl, ?_, fun x c z => (h1 x c z).elim (fun q => by simp at q) id, fun x z => Option.isSome_iff_exists.mp (h2 x (.inr z))⟩
  unfold closureFor
  dsimp only
  rw [e]
  rfl

/-- the names of a block: its own, then the free ones, each at its place among the def's names -/
structure BkScope (N : List Str) (sc osc : Scope) (LN FN : List Str) (fr : List Nat) : Prop where
  kind : sc.kind = .function
  nocell : ∀ y ∈ sc.names, y.2 ≠ .cell
  names : ∀ x ∈ sc.names, x.2 = .local → sc.names.lookup x.1 = some .local
  free : ∀ y ∈ sc.names, y.2 = .free → osc.names.lookup y.1 = some .cell ∨ osc.names.lookup y.1 = some .free
  fnk : ∀ x ∈ FN, osc.names.lookup x = some .cell ∨ osc.names.lookup x = some .free
  fnf : ∀ x ∈ FN, sc.names.lookup x = some .free
  at' : FN.map some = fr.map fun j => N[j]?
theorem BkScope.place {N : List Str} {sc osc : Scope} {LN FN : List Str} {fr : List Nat} (S : BkScope N sc osc LN FN fr) {k : Nat} {x : Str} (e : FN[k]? = some x) : ∃ j : Nat, fr[k]? = some j ∧ N[j]? = some x := by
  have h := congrArg (fun l => l[k]?) S.at'
  simp only [List.getElem?_map, e, Option.map_some] at h
  cases q : fr[k]? with
  | none => rw [q] at h; cases h
  | some j =>
    rw [q] at h
    exact ⟨j, rfl, (Option.some.inj h).symm⟩
theorem BkScope.frl {N : List Str} {sc osc : Scope} {LN FN : List Str} {fr : List Nat} (S : BkScope N sc osc LN FN fr) : fr.length = FN.length := by
  have h := congrArg List.length S.at'
  simpa using h.symm

noncomputable def bkStart (LN : List Str) (fr : List Nat) (σ : St) : St := List.replicate LN.length none ++ fr.map fun j => (σ[j]?).getD none
/-- the block's context, at the entry s (behind the iterator's making), its frame at C -/
noncomputable def bkCx (X : Cx) (LN FN : List Str) (sc : Scope) (cl : List (Str × Addr)) (C : Addr) (fp : List Addr) (pins : List (Addr × Obj)) (s : Shared) (H : Hp) : Cx :=
  { X with N := LN ++ FN, s₀ := s, H₀ := H, env := compEnvC sc cl C X.env, outer := X.stack, ex := fp, fn := fun _ => false, pn := X.pn ++ pins, xe := fun _ _ => False }

theorem relabel_lookup {env : Env} : ∀ {names : List (Str × NameKind)} {x : Str} {k : NameKind},
    (names.map fun (n, k) => if (k == NameKind.free && env.scope.kind == .function && env.kindOf n == some .cell) then (n, NameKind.cell) else (n, k)).lookup x = some k →
    names.lookup x = some k ∨ (names.lookup x = some .free ∧ k = .cell)
  | [], _, _, h => by simp at h
  | (n, j) :: r, x, k, h => by
    have ih := @relabel_lookup env r x k
    have h : List.lookup x ((if (j == NameKind.free && env.scope.kind == .function && env.kindOf n == some .cell) = true then (n, NameKind.cell) else (n, j)) :: _) = some k := h
    rw [List.lookup_cons]
    by_cases hc : (j == NameKind.free && env.scope.kind == .function && env.kindOf n == some .cell) = true
    · rw [if_pos hc, List.lookup_cons] at h
      cases hx : x == n with
      | true =>
        rw [hx] at h
        simp only [Bool.and_eq_true, beq_iff_eq] at hc
        have hk : NameKind.cell = k := by simpa using h
        exact .inr ⟨by simp [hc.1.1], hk.symm⟩
      | false =>
        rw [hx] at h
        exact ih h
    · rw [if_neg hc, List.lookup_cons] at h
      cases hx : x == n with
      | true =>
        rw [hx] at h
        exact .inl h
      | false =>
        rw [hx] at h
        exact ih h

theorem bk_start {X : Cx} {pins : List (Addr × Obj)} {σ : St} {H : Hp} {s : Shared} {LN FN : List Str} {fr : List Nat} {sc : Scope} {cl : List (Str × Addr)} {C : Addr} {fp : List Addr} {h' : Heap} {tk : Nat} {m : Str → Option Value}
    (I : Inv X pins σ H s) (S : BkScope X.N sc X.env.scope LN FN fr) (hf : ∀ b ∈ fp, FpOk X pins H b) (hfs : ∀ b ∈ fp, ∃ o, s.heap.get? b = some o)
    (h1 : ∀ x c, cl.lookup x = some c → X.env.cells.lookup x = some c) (h2 : ∀ x, (x, NameKind.free) ∈ sc.names → ∃ c, cl.lookup x = some c)
    (hC : s.heap.objs.size ≤ C) (hk : ∀ b o, s.heap.get? b = some o → h'.get? b = some o) (hn : h'.Ns C m) :
    Inv (bkCx X LN FN sc cl C fp pins s H) [] (bkStart LN fr σ) H { s with heap := h', toks := tk } := by
  have hsub : ∀ b, b ∉ X.fs → b ≠ X.env.locals → b ∉ frs X.stack := fun b n1 n2 z => (List.mem_cons.mp (I.stkSub b z)).elim n2 n1
  have hlk : ∀ x k, (relabel sc X.env).names.lookup x = some k → (k = .cell ∨ k = .free) → sc.names.lookup x = some .free := fun x k e hk => by
    rcases relabel_lookup e with q | ⟨q, _⟩
    · rcases hk with rfl | rfl
      · exact absurd rfl (S.nocell _ (PySem.mem_of_lookup q))
      · exact q
    · exact q
  refine ⟨⟨I.ok.mod, ?_, I.ok.glob, I.ok.blt, hC, fun x y c e1 e2 => I.ok.inj x y c (h1 x c e1) (h1 y c e2), fun x hx => ?_, (fun x c z => absurd z (by intro z; cases z)), I.ok.hd, I.ok.frames, .inl rfl, fun b hb => ⟨?_, fun x c e z => ?_⟩, I.bs, Nat.le_trans I.ok.bsz I.sz, fun b o e hb => ?_, fun b hb => ?_, I.stack, I.stkFree⟩,
    rfl, I.bare, Un.kept hk, ⟨m, hn, fun i x v e1 e2 e3 => ?_⟩, fun x c e => ?_, ?_, fun x c e => I.freeC x c (h1 x c e), fun p hp => ?_, I.hok.kept hk, ?_⟩
  · exact S.kind
  · have hx : (relabel sc X.env).names.lookup x = some .cell ∨ (relabel sc X.env).names.lookup x = some .free := hx
    rcases hx with hx | hx
    · exact h2 x (PySem.mem_of_lookup (hlk x _ hx (.inl rfl)))
    · exact h2 x (PySem.mem_of_lookup (hlk x _ hx (.inr rfl)))
  · obtain ⟨o, e⟩ := hfs b hb
    exact Nat.ne_of_lt (Nat.lt_of_lt_of_le (Heap.lt_size e) hC)
  · exact (hf b hb).2.2.2.2.1 x c (h1 x c e) z
  · obtain ⟨_, _, _, h3, _⟩ := hf b hb
    rcases h3 with z | z
    · exact I.ok.noex b o e z
    · exact absurd (Nat.lt_of_lt_of_le (Heap.lt_size (I.ok.bs b o e).1) z) (Nat.lt_irrefl _)
  · obtain ⟨_, n1, n2, _⟩ := hf b hb
    exact hsub b n2 n1
  · -- the free names' values
    have hi : LN.length ≤ i := by
      refine Nat.le_of_not_lt fun hlt => ?_
      unfold bkStart at e2
      rw [List.getElem?_append_left (by simpa using hlt), List.getElem?_replicate] at e2
      split at e2 <;> cases e2
    have e1 : FN[i - LN.length]? = some x := by
      have e1 : (LN ++ FN)[i]? = some x := e1
      rwa [List.getElem?_append_right hi] at e1
    obtain ⟨j, ej, hj⟩ := S.place e1
    have e2 : (σ[j]?).getD none = some v := by
      unfold bkStart at e2
      rw [List.getElem?_append_right (by simpa using hi), List.length_replicate, List.getElem?_map, ej] at e2
      simpa using e2
    have e2 : σ[j]? = some (some v) := by
      cases q : σ[j]? with
      | none => rw [q] at e2; cases e2
      | some z =>
        rw [q] at e2
        exact congrArg some e2
    have hkx := S.fnk x (List.mem_of_getElem? e1)
    obtain ⟨m0, hm0, hl⟩ := I.loc
    have hv : Vis X.env.scope x := hkx.elim (fun z => .inr (.inl z)) fun z => .inr (.inr z)
    obtain ⟨u, r, l⟩ := hl j x v hj e2 hv
    refine ⟨u, r, ?_⟩
    rcases l with ⟨k1, _⟩ | ⟨_, c, ec, z⟩
    · have k1 : X.env.scope.names.lookup x = some .local := k1
      rcases hkx with q | q <;> rw [q] at k1 <;> cases k1
    · have e3 : Vis (relabel sc X.env) x := e3
      rcases e3 with q | q | q
      · -- a block's own name is none of the free ones, unless it shadows: then the kinds say local
        rcases relabel_lookup q with q' | ⟨_, q'⟩
        · rw [S.fnf x (List.mem_of_getElem? e1)] at q'
          cases q'
        · cases q'
      · obtain ⟨c', ec'⟩ := h2 x (PySem.mem_of_lookup (hlk x _ q (.inl rfl)))
        have := h1 x c' ec'
        rw [ec] at this; cases this
        exact .inr ⟨.inl q, c, ec', by obtain ⟨o, ho, hd⟩ := z; exact ⟨o, hk _ _ ho, hd⟩⟩
      · obtain ⟨c', ec'⟩ := h2 x (PySem.mem_of_lookup (hlk x _ q (.inr rfl)))
        have := h1 x c' ec'
        rw [ec] at this; cases this
        exact .inr ⟨.inr q, c, ec', by obtain ⟨o, ho, hd⟩ := z; exact ⟨o, hk _ _ ho, hd⟩⟩
  · obtain ⟨v, o, ho, hd⟩ := I.cell x c (h1 x c e)
    exact ⟨v, o, hk _ _ ho, hd⟩
  · exact I.hok.fresh hC
  · have hp : p ∈ (X.pn ++ pins) ++ [] := hp
    rw [List.append_nil] at hp
    obtain ⟨e, n, ne, nf, d⟩ := I.pin p hp
    exact ⟨hk _ _ e, n, Nat.ne_of_lt (Nat.lt_of_lt_of_le (Heap.lt_size e) hC), hsub _ nf ne, d⟩
  · unfold bkStart
    show _ = (LN ++ FN).length
    simp [S.frl]
end L2

end
section
set_option Elab.async false
set_option linter.all false
set_option maxRecDepth 100000
set_option maxHeartbeats 4000000
namespace L2
open PySem PySem.Spec PyProof.Rows

/-- the tests of a clause: none, or one -/
noncomputable def PTs (X : Cx) (ifs : List Expr) (t : TT) : Prop :=
  ∀ (pins : List (Addr × Obj)) (s : Shared) (σ : St) (H : Hp) (Q : Bool → Hp → Prop), Inv X pins σ H s → t σ H Q →
    wpAny (model X.prog X.w) X.A (forIn ifs true fun c r => if r = true then do let ok ← isTrue c X.env (eval c X.env); pure (ForInStep.yield ok) else pure (ForInStep.yield r)) (TP X pins σ Q) X.xe s
noncomputable def tTrue : TT := fun _ H Q => Q true H
theorem pts_nil {X : Cx} : PTs X [] tTrue := fun _ _ _ H _ I h => wpAny_tests_nil ⟨H, I, h⟩
theorem pts_one {X : Cx} {c : Expr} {t : TT} (h : PT X c t) : PTs X [c] t := fun pins s σ H Q I q => wpAny_tests_one (h pins s σ H Q I q)

theorem Un.track {fs ex : List Addr} {H H1 : Hp} {h h1 : Heap} {a : Addr} {o : HO} (u : Un fs ex H H1 h h1) (hp : h.objs.size ≤ a) (hn : H a = none) : Un fs ex H (upd H1 a o) h h1 where
  keep := u.keep
  slot := u.slot
  free := fun b ob q n hx => by
    rw [upd_ne (Nat.ne_of_lt (Nat.lt_of_lt_of_le (Heap.lt_size q) hp))]
    exact u.free b ob q n hx
  there := u.there
  tups := fun b xs q => by
    rw [upd_ne (fun z => by rw [z, hn] at q; cases q)]
    exact u.tups b xs q
  frzs := fun b ob x q => by
    rw [upd_ne (fun z => by rw [z, hn] at q; cases q)]
    exact u.frzs b ob x q
  tbls := fun b ps q => by
    rw [upd_ne (fun z => by rw [z, hn] at q; cases q)]
    exact u.tbls b ps q
theorem HOk.track {P : Program} {w : World} {H : Hp} {h : Heap} {a : Addr} {o : HO} (x : HOk P w H h) (hn : H a = none) (new : ObjOk P w (upd H a o) h a o) : HOk P w (upd H a o) h := fun b u e => by
  by_cases hb : b = a
  · subst hb
    rw [upd_same] at e
    cases e
    exact new
  · rw [upd_ne hb] at e
    refine (x b u e).stay (fun _ _ _ q => q) (fun c q => ?_) fun c xs q => ?_
    · rw [upd_ne (fun z => by rw [z, hn] at q; cases q)]
      exact q
    · rw [upd_ne (fun z => by rw [z, hn] at q; cases q)]
      exact q

theorem compLoop_X {EB : Value → Shared → Prop} {prog : Program} {w : World} {A : Around} {R : Result → Shared → Prop} {s : Shared} {elt target iter : Expr} {ifs : List Expr} {scope : Scope} {pos : Pos} {it acc : Value} {env : Env} (I : Nat → Shared → Prop)
    (turn : ∀ n s, I n s → wpAny (model prog w) A (pyNext it) (fun r s₁ => match r with
      | none => R (.ok .next) s₁
      | some v => wpAny (model prog w) A (letOwnedTupleGo target it v) (fun _ s₁' => wpAny (model prog w) A (assign target env v) (fun _ s₂ =>
          wpAny (model prog w) A (forIn ifs true fun c r => if r = true then do let ok ← isTrue c env (eval c env); pure (ForInStep.yield ok) else pure (ForInStep.yield r)) (fun ok s₃ =>
            if ok = true then wpAny (model prog w) A (eval elt env) (fun x s₄ =>
              wpAny (model prog w) A (call (.builtin "list.append") [acc, x]) (fun _ s₅ => ∃ m, m < n ∧ I m s₅) (fun _ _ => False) s₄) EB s₃
            else ∃ m, m < n ∧ I m s₃) (fun _ _ => False) s₂) (fun _ _ => False) s₁') (fun _ _ => False) s₁) (fun _ _ => False) s)
    (hEB : ∀ e s', EB e s' → notedBy (model prog w) A env (fun e s' => R (.error e) s') e s') (n : Nat) (h : I n s) :
    codeAny (model prog w) A (.compLoop (.ListComp elt [⟨target, iter, ifs, 0⟩] scope pos) 0 it acc env) R s := by
  refine codeAny_loop rfl I (fun n s hI => ?_) n h
  show wpAny _ A ((compTurn (.ListComp elt [⟨target, iter, ifs, 0⟩] scope pos) 0 it acc env).onRaise (fun x => do noteFrame x env; theTreesLotGoes x)) _ _ s
  refine wpAny_noted ?_
  rw [compTurn_list]
  refine wpAny_bind (wpAny_standAt (wpAny_bind (wpAny_mono (turn n s hI) (fun r s₁ h₁ => ?_) fun _ _ h' => h'.elim)))
  cases r with
  | none => exact wpAny_pure h₁
  | some v =>
    refine wpAny_bind (wpAny_mono h₁ (fun _ s₁' h₁' => ?_) fun _ _ h' => h'.elim)
    refine wpAny_bind (wpAny_mono h₁' (fun _ s₂ h₂ => wpAny_bind (wpAny_mono h₂ (fun ok s₃ h₃ => ?_) fun _ _ h' => h'.elim)) fun _ _ h' => h'.elim)
    cases ok with
    | false => exact wpAny_pure ⟨rfl, h₃⟩
    | true =>
      exact wpAny_bind (wpAny_bind (wpAny_mono h₃ (fun x s₄ h₄ => wpAny_bind (wpAny_mono h₄ (fun _ s₅ h₅ => wpAny_pure (wpAny_pure ⟨rfl, h₅⟩)) fun _ _ h' => h'.elim)) fun e s' h' => hEB e s' h'))

/-- behind the loop's raising, its names go and it is passed on -/
noncomputable def PostErr (X : Cx) (C : Addr) (e : Value) (s' : Shared) : Prop := ∃ m, s'.heap.Ns C m ∧ ∀ h', Heap.SameBut C s'.heap h' → ∀ cenv : Env, cenv.locals = C → wpAny (model X.prog X.w) X.A (PySem.passOn "comprehension.variables-let-go" e cenv : Sem Value) (fun _ _ => False) X.xe { s' with heap := h' }
noncomputable def bkXe (X : Cx) (sc : Scope) (cl : List (Str × Addr)) (C : Addr) : Value → Shared → Prop := notedBy (model X.prog X.w) X.A (compEnvC sc cl C X.env) (PostErr X C)
/-- what holds at the block's entry -/
noncomputable def BkIn (X : Cx) (C : Addr) (fp : List Addr) (pins : List (Addr × Obj)) (s : Shared) (H : Hp) : Prop := (∃ σ, Inv X pins σ H s) ∧ (∀ b ∈ fp, FpOk X pins H b) ∧ s.heap.objs.size ≤ C
/-- the block's context, where an item may raise -/
noncomputable def bkX (X : Cx) (LN FN : List Str) (sc : Scope) (cl : List (Str × Addr)) (C : Addr) (fp : List Addr) (pins : List (Addr × Obj)) (s : Shared) (H : Hp) : Cx := (bkCx X LN FN sc cl C fp pins s H).wish (bkXe X sc cl C)
section
variable {X : Cx} {tg elt iter : Expr} {ifs : List Expr} {sc : Scope} {pos : Pos} {LN FN : List Str} {fr : List Nat} {wi : TI} {g : TG} {tt : TT} {te : TE}

/-- what a comprehension wants: W by the turn, a measure, the items so far, the block's names, the heap -/
noncomputable def CW (J : It) (g : TG) (tt : TT) (te : TE) (W : Nat → Nat → List V → St → Hp → Prop) (Q : VK) : Prop :=
  ∀ i m ys σ H, W i m ys σ H →
    (J.stop i H ∧ ys.length ≤ sizeLine ∧ ∀ p, H p = none → Q (.ref p) (upd H p (.lst ys))) ∨
    (J.go i H ∧ ∃ N : List V → St → Hp → Prop, (∀ ys' σ' H', N ys' σ' H' → ∃ m', m' < m ∧ W (i + 1) m' ys' σ' H') ∧
      ∀ x H2, J.yld i H x H2 → g x σ H2 fun σ2 H3 => tt σ2 H3 fun ok H4 => if ok = true then te σ2 H4 fun y H5 => ys.length < sizeLine ∧ N (ys ++ [y]) σ2 H5 else N ys σ2 H4)
noncomputable def tComp (LN : List Str) (fr : List Nat) (wi : TI) (g : TG) (tt : TT) (te : TE) : TE := fun σ H Q => wi σ H fun J H1 =>
  ∃ W : Nat → Nat → List V → St → Hp → Prop, (∃ m, W 0 m [] (bkStart LN fr σ) H1) ∧ CW J g tt te W Q

theorem bk_runX {pins : List (Addr × Obj)} {σ : St} {H2 : Hp} {s2 : Shared} {it : Addr} {fp : List Addr} {tn : Nat → Heap → Prop} {J : It} {cl : List (Str × Addr)} {W : Nat → Nat → List V → St → Hp → Prop} {Q : VK} {m0 : Nat}
    {R : Value → Addr → Result → Shared → Prop} {E : Value → Shared → Prop}
    (hc : X.calm = true) (S : BkScope X.N sc X.env.scope LN FN fr)
    (hg : ∀ cl C fp pins s H, PG (bkCx X LN FN sc cl C fp pins s H) tg g) (ht : ∀ cl C fp pins s H, PTs (bkCx X LN FN sc cl C fp pins s H) ifs tt) (he : ∀ cl C fp pins s H, BkIn X C fp pins s H → PE (bkX X LN FN sc cl C fp pins s H) elt te)
    (h1 : ∀ x c, cl.lookup x = some c → X.env.cells.lookup x = some c) (h2 : ∀ x, (x, NameKind.free) ∈ sc.names → ∃ c, cl.lookup x = some c)
    (I2 : Inv X pins σ H2 s2) (T : Turn X.prog X.w X.K tg J fp it tn) (st2 : tn 0 s2.heap) (f2 : ∀ b ∈ fp, FpOk X pins H2 b) (w0 : W 0 m0 [] (bkStart LN fr σ) H2) (turn : CW J g tt te W Q)
    (hR : ∀ D C s' H' ys m, s'.heap.Ns C m → Inv X pins σ (upd H' D (.lst ys)) s' → FpOk X pins (upd H' D (.lst ys)) C → Q (.ref D) (upd H' D (.lst ys)) → R (.ref D) C (.ok .next) s') (hRE : ∀ D C e s', PostErr X C e s' → R (.ref D) C (.error e) s') :
    wpAny (model X.prog X.w) X.A (newList []) (fun acc s₃ => wpAny (model X.prog X.w) X.A (newFunctionEnv sc X.env.globals cl [] X.env.qual none .none (some X.env)) (fun cenv s₄ =>
      codeAny (model X.prog X.w) X.A (.compStart (.ListComp elt [⟨tg, iter, ifs, 0⟩] sc pos) 0 (.ref it) acc { cenv with scope := relabel sc X.env }) (R acc cenv.locals) s₄) E s₃) E s2 := by
  refine wpAny_newObj_type (wpAny_newFunctionEnv S.nocell (by intro y hy; simp at hy) (fun h₁ hns hsb => ?_) S.kind)
  dsimp only at hns hsb ⊢
  generalize hH2 : s2.heap.push { cls := .type "list", dict := none, data := .seq ([] : List Value).toArray } = G at hns hsb ⊢
  have hC : G.objs.size = s2.heap.objs.size + 1 := by rw [← hH2, Heap.size_push]
  have hDC : s2.heap.objs.size ≠ G.objs.size := by rw [hC]; exact Nat.ne_of_lt (Nat.lt_succ_self _)
  have hCle : s2.heap.objs.size ≤ G.objs.size := by rw [hC]; exact Nat.le_succ _
  have old : ∀ b o, s2.heap.get? b = some o → h₁.get? b = some o := fun b o e =>
    hsb.extBut b o (by rw [hC]; exact Nat.ne_of_lt (Nat.lt_succ_of_lt (Heap.lt_size e))) (Heap.get?_push_of_some _ (hH2 ▸ Heap.get?_push_of_some _ e))
  have hacc : h₁.PlainList s2.heap.objs.size #[] := ⟨_, hsb.extBut _ _ hDC (Heap.get?_push_of_some _ (hH2 ▸ Heap.get?_push_size _ rfl))⟩
  have hfs : ∀ b ∈ fp, ∃ o, s2.heap.get? b = some o := fun b hb => let ⟨o, e, _⟩ := T.obj 0 _ st2 b hb; ⟨o, e⟩
  have hflt : ∀ b ∈ fp, b < s2.heap.objs.size := fun b hb => let ⟨o, e⟩ := hfs b hb; Heap.lt_size e
  generalize hD : s2.heap.objs.size = D at *
  generalize hCC : G.objs.size = C at *
  have I0 := bk_start (LN := LN) (cl := cl) (C := C) (tk := s2.toks + ([] : List (Str × Value)).length) I2 S f2 hfs h1 h2 (by rw [hD]; exact hCle) old hns
  have hin : BkIn X C fp pins s2 H2 := ⟨⟨σ, I2⟩, f2, by rw [hD]; exact hCle⟩
  have fD : FpOk X pins H2 D := I2.fpOk (Nat.le_of_eq hD) (I2.hok.fresh (Nat.le_of_eq hD))
  -- what stays true of D and of the iterator's objects inside the block
  have stD : ∀ {pl : List (Addr × Obj)} {H' : Hp}, H' D = none → (∀ p ∈ pl, p.1 ≠ D) → FpOk (bkCx X LN FN sc cl C fp pins s2 H2) pl H' D := fun {pl H'} hn hp => by
    refine ⟨hn, hDC, fun z => ?_, .inr (Nat.le_of_eq hD), fun x c e => fD.2.2.2.2.1 x c (h1 x c e), fun p hp' => ?_⟩
    · exact (List.mem_cons.mp (I2.stkSub D z)).elim fD.2.1 fD.2.2.1
    · have hp' : p ∈ (X.pn ++ pins) ++ pl := hp'
      rcases List.mem_append.mp hp' with q | q
      · exact fD.2.2.2.2.2 p q
      · exact hp p q
  have stat : ∀ {pl : List (Addr × Obj)} {H' : Hp}, (∀ b ∈ fp, H' b = none) → (∀ p ∈ pl, p.1 = D) → ∀ b ∈ fp, FpOk (bkCx X LN FN sc cl C fp pins s2 H2) pl H' b := fun {pl H'} hn hp b hb => by
    obtain ⟨_, n1, n2, n3, n4, n5⟩ := f2 b hb
    refine ⟨hn b hb, Nat.ne_of_lt (Nat.lt_of_lt_of_le (hflt b hb) hCle), fun z => ?_, .inl hb, fun x c e => n4 x c (h1 x c e), fun p hp' => ?_⟩
    · exact (List.mem_cons.mp (I2.stkSub b z)).elim n1 n2
    · have hp' : p ∈ (X.pn ++ pins) ++ pl := hp'
      rcases List.mem_append.mp hp' with q | q
      · exact n5 p q
      · rw [hp p q]
        exact Nat.ne_of_gt (hflt b hb)
  have pinD : ∀ {s' : Shared}, ∀ p ∈ pinsAt [D] s'.heap, p.1 = D := fun p hp => by simpa using (of_pinsAt hp).1
  have key : ∀ s₄ : Shared, s₄ = { s2 with heap := h₁, toks := s2.toks + ([] : List (Str × Value)).length } →
      codeAny (model X.prog X.w) X.A (.compLoop (.ListComp elt [⟨tg, iter, ifs, 0⟩] sc pos) 0 (.ref it) (.ref D) (compEnvC sc cl C X.env)) (R (.ref D) C) s₄ := by
    rintro s₄ rfl
    refine compLoop_X (EB := bkXe X sc cl C) (fun n s' => ∃ i ys σ' H' its, Inv (bkCx X LN FN sc cl C fp pins s2 H2) [] σ' H' s' ∧ tn i s'.heap ∧ (∀ b ∈ fp, H' b = none) ∧ W i n ys σ' H' ∧ Vals ys its ∧ s'.heap.PlainList D its.toArray ∧ H' D = none) ?_ (fun e s' h' => wpAny_mono h' (fun _ s'' q => hRE D C e s'' q) fun e' s'' q => hRE D C e' s'' q) m0
      ⟨0, [], _, H2, [], I0, T.keep _ _ _ st2 (fun b _ o e => old b o e), fun b hb => (f2 b hb).1, w0, .nil, hacc, fD.1⟩
    rintro n s3 ⟨i, ys, σ3, H3, its, I3, st3, fr3, w3, rv, pl, nD⟩
    have plo : ∃ o, s3.heap.get? D = some o ∧ ∀ v, o.data ≠ .cell v := by
      obtain ⟨k, e⟩ := pl
      exact ⟨_, e, fun v z => by cases z⟩
    have I3' : Inv (bkCx X LN FN sc cl C fp pins s2 H2) ([] ++ pinsAt [D] s3.heap) σ3 H3 s3 := I3.pinned (fp := [D]) (fun b hb => by
      obtain rfl : b = D := by simpa using hb
      exact stD nD (fun _ z => nomatch z)) (fun b hb => by
      obtain rfl : b = D := by simpa using hb
      exact plo)
    have I3' : Inv (bkCx X LN FN sc cl C fp pins s2 H2) (pinsAt [D] s3.heap) σ3 H3 s3 := I3'
    have keepD : ∀ {pl' : List (Addr × Obj)} {σ' : St} {H' : Hp} {s' : Shared}, Inv (bkCx X LN FN sc cl C fp pins s2 H2) (pinsAt [D] s3.heap ++ pl') σ' H' s' → s'.heap.PlainList D its.toArray ∧ H' D = none := fun {pl' σ' H' s'} J => by
      obtain ⟨k, e⟩ := pl
      have := J.pin (D, _) (List.mem_append_right _ (List.mem_append_left _ (mem_pinsAt (by simp) e)))
      exact ⟨⟨k, this.1⟩, this.2.1⟩
    have keepD0 : ∀ {σ' : St} {H' : Hp} {s' : Shared}, Inv (bkCx X LN FN sc cl C fp pins s2 H2) (pinsAt [D] s3.heap) σ' H' s' → s'.heap.PlainList D its.toArray ∧ H' D = none := fun {σ' H' s'} J => by
      refine keepD (pl' := []) (σ' := σ') ?_
      rw [List.append_nil]
      exact J
    rcases turn i n ys σ3 H3 w3 with ⟨stop, hlen, q⟩ | ⟨go, N, hN, step⟩
    · refine thn (T.done (bkCx X LN FN sc cl C fp pins s2 H2) rfl rfl rfl hc i (pinsAt [D] s3.heap) s3 σ3 H3 _ I3' (stat fr3 (fun p hp => pinD (s' := s3) p hp)) st3 stop) fun r s4 ⟨hr, I4⟩ => ?_
      subst hr
      obtain ⟨pl4, n4⟩ := keepD0 I4
      have u4 : Un (frs X.stack) fp H2 (upd H3 D (.lst ys)) s2.heap s4.heap := Un.track I4.base (Nat.le_of_eq hD) fD.1
      have nC : H3 C = none := I4.free
      have o4 : HOk X.prog X.w (upd H3 D (.lst ys)) s4.heap := HOk.track I4.hok n4 (by
        obtain ⟨k, e⟩ := pl4
        exact ⟨hlen, its, k, rv, e⟩)
      have J : Inv X pins σ (upd H3 D (.lst ys)) s4 := I2.call' (s' := s4) (ch := fp) I4.os u4 o4 I4.bare fun b hb => by
        obtain ⟨_, n1, n2, n3, n4, n5⟩ := f2 b hb
        exact ⟨n3, n1, n4, n5⟩
      obtain ⟨m, hm, _⟩ := I4.loc
      exact hR D C s4 H3 ys m hm J (I2.fpOk (by rw [hD]; exact hCle) (by rw [upd_ne (Ne.symm hDC)]; exact nC)) (q D n4)
    · refine thn (T.item (bkCx X LN FN sc cl C fp pins s2 H2) rfl rfl rfl hc i (pinsAt [D] s3.heap) s3 σ3 H3 _ I3' (stat fr3 (fun p hp => pinD (s' := s3) p hp)) st3 go) fun r s4 ⟨u, hr, h4⟩ => ?_
      subst hr
      refine thn h4 fun _ s5 ⟨x, H5, I5, r5, y5, st5, fr5⟩ => ?_
      have I5' := I5.pinned (stat fr5 (fun p hp => pinD (s' := s3) p hp)) (T.obj _ _ st5)
      refine thn (hg cl C fp pins s2 H2 _ s5 σ3 H5 x u _ I5' r5 (step x H5 y5)) fun _ s6 ⟨σ6, H6, I6, q6⟩ => ?_
      refine thn (ht cl C fp pins s2 H2 _ s6 σ6 H6 _ I6 q6) fun ok s7 ⟨H7, I7, q7⟩ => ?_
      have again : ∀ {s' : Shared} {H' : Hp}, Inv (bkCx X LN FN sc cl C fp pins s2 H2) (pinsAt [D] s3.heap ++ pinsAt fp s5.heap) σ6 H' s' → tn (i + 1) s'.heap ∧ ∀ b ∈ fp, H' b = none := fun {s' H'} J => by
        refine ⟨T.keep _ _ _ st5 fun b hb o e => (J.pin (b, o) (List.mem_append_right _ (List.mem_append_right _ (mem_pinsAt hb e)))).1, fun b hb => ?_⟩
        obtain ⟨o, e, d⟩ := T.obj _ _ st5 b hb
        exact (J.pin (b, o) (List.mem_append_right _ (List.mem_append_right _ (mem_pinsAt hb e)))).2.1
      have bare : ∀ {s' : Shared} {H' : Hp}, Inv (bkCx X LN FN sc cl C fp pins s2 H2) (pinsAt [D] s3.heap ++ pinsAt fp s5.heap) σ6 H' s' → Inv (bkCx X LN FN sc cl C fp pins s2 H2) [] σ6 H' s' := fun J => J.pins_of fun p hp => nomatch hp
      cases ok with
      | false =>
        rw [if_neg Bool.false_ne_true] at q7 ⊢
        obtain ⟨m', hm, w7⟩ := hN ys σ6 H7 q7
        obtain ⟨pl7, n7⟩ := keepD I7
        exact ⟨m', hm, i + 1, ys, σ6, H7, its, bare I7, (again I7).1, (again I7).2, w7, rv, pl7, n7⟩
      | true =>
        rw [if_pos rfl] at q7 ⊢
        refine wpAny_mono (he cl C fp pins s2 H2 hin _ s7 σ6 H7 _ (I7.wish _) q7) (fun v s8 hz8 => ?_) fun _ _ z => z
        obtain ⟨y, H8, I8, r8, hl8, q8⟩ := hz8
        have I8 := I8.unwish
        obtain ⟨m', hm, w8⟩ := hN _ σ6 H8 q8
        obtain ⟨pl8, n8⟩ := keepD I8
        obtain ⟨t8, f8⟩ := again I8
        have hsz : its.toArray.size ≤ sizeLine := by
          have := rv.length
          rw [List.size_toArray, ← this]
          exact Nat.le_of_lt hl8
        refine wpAny_list_append_plain pl8 (fun h' pl' sb => ?_) hsz
        refine ⟨m', hm, i + 1, ys ++ [y], σ6, H8, its ++ [v], ?_, ?_, f8, w8, rv.append (.cons r8 .nil), ?_, n8⟩
        · obtain ⟨d0, d1, d2, d3, d4, d5⟩ := stD (pl := []) n8 (fun _ z => nomatch z)
          exact (bare I8).turned (t' := s8.toks) (fun b o hb e => (sb.2 b hb).trans e) d0 d1 d3 d4 d5
        · exact T.keep _ _ _ t8 fun b hb o e => (sb.2 b (Nat.ne_of_lt (hflt b hb))).trans e
        · simpa using pl'
  exact codeAny_compStart_list (key _ rfl) (T.self _ 0 _ _ _ (T.keep _ _ _ st2 fun b _ o e => old b o e) (key _ rfl))

/-- where nothing is raised, anything may be asked of what is -/
theorem PE.any {E : Value → Shared → Prop} {e : Expr} {t : TE} (h : PE X e t) (hx : X.xe = fun _ _ => False) : PE (X.wish E) e t := by
  intro pins s σ H Q I q
  refine wpAny_mono (h pins s σ H Q I.unwish q) (fun v s1 h1 => ?_) (fun _ _ z => by rw [hx] at z; exact z.elim)
  obtain ⟨y, H1, I1, r1, q1⟩ := h1
  exact ⟨y, H1, I1.wish E, r1, q1⟩
/-- [elt for tg in iter if ..] -/
theorem pe_comp (hc : X.calm = true) (S : BkScope X.N sc X.env.scope LN FN fr) (hi : PI X tg iter wi)
    (hg : ∀ cl C fp pins s H, PG (bkCx X LN FN sc cl C fp pins s H) tg g) (ht : ∀ cl C fp pins s H, PTs (bkCx X LN FN sc cl C fp pins s H) ifs tt) (he : ∀ cl C fp pins s H, PE (bkCx X LN FN sc cl C fp pins s H) elt te)
    (hs : ∀ x, foldedSetIterable iter X.env x = pure x := by intro _; rfl) : PE X (.ListComp elt [⟨tg, iter, ifs, 0⟩] sc pos) (tComp LN fr wi g tt te) := by
  intro pins s σ H Q I h
  rw [eval_ListComp]
  obtain ⟨cl, ecl, h1, h2⟩ := closure_of (scope := sc) (env := X.env) fun y hy hk => I.ok.has y.1 (S.free y hy hk)
  refine wpAny_comprehension_free (use := none) rfl hs ecl S.kind S.names (thn (hi pins s σ H _ I h) fun v s1 q1 => thn q1 fun itv s2 q2 => ?_)
  obtain ⟨it, fp, tn, J, H2, e, I2, T, st2, f2, W, ⟨m0, w0⟩, turn⟩ := q2
  subst e
  refine bk_runX (R := fun acc C => compPost (model X.prog X.w) X.A X.xe none (EP X pins σ Q) acc C) hc S hg ht (fun cl C fp pins s H _ => (he cl C fp pins s H).any rfl) h1 h2 I2 T st2 f2 w0 turn (fun D C s' H' ys m hn J fC q => ?_) (fun _ _ _ _ z => z)
  refine ⟨m, hn, fun h' sb => ⟨.ref D, _, J.turned (t' := s'.toks) (fun b o hb e => (sb.2 b hb).trans e) fC.1 fC.2.1 fC.2.2.2.1 fC.2.2.2.2.1 fC.2.2.2.2.2, rfl, q⟩⟩

/-- name = [elt for tg in iter if ..], the store ahead of the block's end -/
theorem ps_setc {i : Nat} {x : Str} {pos' pos2 : Pos} (hc : X.calm = true) (hN : X.N.Nodup) (hix : X.N[i]? = some x) (hx : X.env.scope.names.lookup x = some .local) (S : BkScope X.N sc X.env.scope LN FN fr) (hi : PI X tg iter wi)
    (hg : ∀ cl C fp pins s H, PG (bkCx X LN FN sc cl C fp pins s H) tg g) (ht : ∀ cl C fp pins s H, PTs (bkCx X LN FN sc cl C fp pins s H) ifs tt) (he : ∀ cl C fp pins s H, PE (bkCx X LN FN sc cl C fp pins s H) elt te)
    (hsw : swapsWith (.ListComp elt [⟨tg, iter, ifs, 0⟩] sc pos) (some (.Name x pos')) pos2.line X.env = pure true := by rfl)
    (hs : ∀ x, foldedSetIterable iter X.env x = pure x := by intro _; rfl) : PS X (.Assign [.Name x pos'] (.ListComp elt [⟨tg, iter, ifs, 0⟩] sc pos) pos2) (tAsg (tComp LN fr wi g tt te) (gName i)) := by
  intro pins s σ H D0 I h
  rw [exec_Assign_Name_used _ _ _ _ hsw]
  refine wpAny_bind (wpAny_standAt (wpAny_bind ?_))
  show wpAny _ X.A (do let _ ← comprehension (.ListComp elt [⟨tg, iter, ifs, 0⟩] sc pos) sc X.env _ (newList []) false (eval iter X.env) (some (assign (.Name x pos') X.env))) _ _ s
  obtain ⟨cl, ecl, h1, h2⟩ := closure_of (scope := sc) (env := X.env) fun y hy hk => I.ok.has y.1 (S.free y hy hk)
  refine wpAny_bind (wpAny_mono (wpAny_comprehension_free (use := some (assign (.Name x pos') X.env)) (Q := fun _ s' => SP X pins D0 .next s') rfl hs ecl S.kind S.names (thn (hi pins s σ H _ I h) fun v s1 q1 => thn q1 fun itv s2 q2 => ?_))
    (fun _ s' hq => wpAny_pure (wpAny_pure hq)) fun _ _ e => e)
  obtain ⟨it, fp, tn, J, H2, e, I2, T, st2, f2, W, ⟨m0, w0⟩, turn⟩ := q2
  subst e
  refine bk_runX (R := fun acc C => compPost (model X.prog X.w) X.A X.xe (some (assign (.Name x pos') X.env)) (fun _ s' => SP X pins D0 .next s') acc C) hc S hg ht (fun cl C fp pins s H _ => (he cl C fp pins s H).any rfl) h1 h2 I2 T st2 f2 w0 turn (fun D C s' H' ys m hn J fC q => ?_) (fun _ _ _ _ z => z)
  show wpAny _ X.A (assign (.Name x pos') X.env (.ref D)) _ _ s'
  refine wpAny_assign_Name (store_ok2 J hN hix (.inl hx) (show RelV (.ref D) (.ref D) from rfl) (fun s'' J2 ⟨a, sb2, ha⟩ => ?_) (.inr hx))
  have nCa : C ≠ a := by
    rcases ha with z | z
    · rw [z]; exact fC.2.1
    · exact fun q => fC.2.2.2.2.1 x a z q.symm
  refine ⟨m, hn.sameBut sb2 nCa, fun h' sb => ⟨_, _, J2.turned (t' := s''.toks) (fun b o hb e => (sb.2 b hb).trans e) fC.1 fC.2.1 fC.2.2.2.1 fC.2.2.2.2.1 fC.2.2.2.2.2, q⟩⟩
end
end L2

end
section
set_option Elab.async false
set_option linter.all false
set_option maxRecDepth 100000
set_option maxHeartbeats 4000000
namespace L2
open PySem PySem.Spec PyProof.Rows

/-! ### data: what a value stands for, by tuples that never change -/
inductive D where
  | non | bl (b : Bool) | int (i : Int) | str (x : Str) | tup (ds : List D)
mutual
noncomputable def Rep (H : Hp) : D → V → Prop
  | .non, v => v = .non
  | .bl b, v => v = .bl b
  | .int i, v => v = .int i
  | .str x, v => v = .str x
  | .tup ds, v => ∃ a xs, v = .ref a ∧ H a = some (.tup xs) ∧ Reps H ds xs
noncomputable def Reps (H : Hp) : List D → List V → Prop
  | [], vs => vs = []
  | d :: ds, vs => ∃ v r, vs = v :: r ∧ Rep H d v ∧ Reps H ds r
end
/-- tuples stay -/
noncomputable def TSame (H H' : Hp) : Prop := ∀ a xs, H a = some (.tup xs) → H' a = some (.tup xs)
theorem TSame.trans {H H1 H2 : Hp} (a : TSame H H1) (b : TSame H1 H2) : TSame H H2 := fun c o h => b c o (a c o h)
theorem Same.ts {H H' : Hp} (h : Same H H') : TSame H H' := fun a xs e => h a _ e
theorem Same.new {H : Hp} {a : Addr} {o : HO} (h : H a = none) : Same H (upd H a o) := fun b u e => by rw [upd_ne (ne_of_none e h)]; exact e
/-- an object that is no tuple is written -/
theorem TSame.wr {H : Hp} {a : Addr} {o : HO} (h : ∀ xs, H a ≠ some (.tup xs)) : TSame H (upd H a o) := fun b xs e => by
  rw [upd_ne (fun z => by subst z; exact h xs e)]
  exact e
mutual
theorem Rep.mono {H H' : Hp} (t : TSame H H') : ∀ {d : D} {v : V}, Rep H d v → Rep H' d v
  | .non, _, h => by simpa [Rep] using h
  | .bl _, _, h => by simpa [Rep] using h
  | .int _, _, h => by simpa [Rep] using h
  | .str _, _, h => by simpa [Rep] using h
  | .tup ds, v, h => by
    rw [Rep] at h ⊢
    obtain ⟨a, xs, e, ha, r⟩ := h
    exact ⟨a, xs, e, t a xs ha, Reps.mono t r⟩
theorem Reps.mono {H H' : Hp} (t : TSame H H') : ∀ {ds : List D} {vs : List V}, Reps H ds vs → Reps H' ds vs
  | [], _, h => by simpa [Reps] using h
  | d :: ds, vs, h => by
    rw [Reps] at h ⊢
    obtain ⟨v, r, e, h1, h2⟩ := h
    exact ⟨v, r, e, Rep.mono t h1, Reps.mono t h2⟩
end
theorem rep_int {H : Hp} {i : Int} : Rep H (.int i) (.int i) := by rw [Rep]
theorem rep_tup {H : Hp} {a : Addr} {xs : List V} {ds : List D} (h : H a = some (.tup xs)) (r : Reps H ds xs) : Rep H (.tup ds) (.ref a) := by rw [Rep]; exact ⟨a, xs, rfl, h, r⟩
theorem reps_nil {H : Hp} : Reps H [] [] := by rw [Reps]
theorem reps_cons {H : Hp} {d : D} {ds : List D} {v : V} {vs : List V} (h : Rep H d v) (r : Reps H ds vs) : Reps H (d :: ds) (v :: vs) := by rw [Reps]; exact ⟨v, vs, rfl, h, r⟩
theorem rep_int_inv {H : Hp} {i : Int} {v : V} (h : Rep H (.int i) v) : v = .int i := by rwa [Rep] at h
theorem rep_tup_inv {H : Hp} {v : V} {ds : List D} (h : Rep H (.tup ds) v) : ∃ a xs, v = .ref a ∧ H a = some (.tup xs) ∧ Reps H ds xs := by rwa [Rep] at h
theorem reps_nil_inv {H : Hp} {vs : List V} (h : Reps H [] vs) : vs = [] := by rwa [Reps] at h
theorem reps_cons_inv {H : Hp} {d : D} {ds : List D} {vs : List V} (h : Reps H (d :: ds) vs) : ∃ v r, vs = v :: r ∧ Rep H d v ∧ Reps H ds r := by rwa [Reps] at h
theorem Reps.length {H : Hp} : ∀ {ds : List D} {vs : List V}, Reps H ds vs → ds.length = vs.length
  | [], vs, h => by rw [reps_nil_inv h]; rfl
  | d :: ds, vs, h => by
    obtain ⟨v, r, rfl, _, h2⟩ := reps_cons_inv h
    simp [Reps.length h2]
theorem Reps.get {H : Hp} : ∀ {ds : List D} {vs : List V} {i : Nat} {d : D}, Reps H ds vs → ds[i]? = some d → ∃ v, vs[i]? = some v ∧ Rep H d v
  | [], vs, i, d, h, e => by simp at e
  | d :: ds, vs, 0, d', h, e => by
    obtain ⟨v, r, rfl, h1, h2⟩ := reps_cons_inv h
    simp at e; subst e
    exact ⟨v, rfl, h1⟩
  | d :: ds, vs, i + 1, d', h, e => by
    obtain ⟨v, r, rfl, h1, h2⟩ := reps_cons_inv h
    obtain ⟨u, e1, e2⟩ := Reps.get (i := i) (d := d') h2 (by simpa using e)
    exact ⟨u, by simpa using e1, e2⟩
theorem Reps.get' {H : Hp} {ds : List D} {vs : List V} {i : Nat} {v : V} (h : Reps H ds vs) (e : vs[i]? = some v) : ∃ d, ds[i]? = some d ∧ Rep H d v := by
  have hl := h.length
  have hi : i < vs.length := (List.getElem?_eq_some_iff.mp e).1
  obtain ⟨u, e1, e2⟩ := h.get (i := i) (d := ds[i]'(by omega)) (List.getElem?_eq_getElem (by omega))
  rw [e] at e1; cases e1
  exact ⟨_, List.getElem?_eq_getElem (by omega), e2⟩
theorem Reps.append {H : Hp} : ∀ {ds es : List D} {vs ws : List V}, Reps H ds vs → Reps H es ws → Reps H (ds ++ es) (vs ++ ws)
  | [], es, vs, ws, h, r => by rw [reps_nil_inv h]; exact r
  | d :: ds, es, vs, ws, h, r => by
    obtain ⟨v, q, rfl, h1, h2⟩ := reps_cons_inv h
    exact reps_cons h1 (Reps.append h2 r)
theorem reps_ints {H : Hp} : ∀ {ns : List Int} {vs : List V}, Reps H (ns.map D.int) vs → vs = ns.map V.int
  | [], vs, h => reps_nil_inv h
  | n :: ns, vs, h => by
    obtain ⟨v, r, rfl, h1, h2⟩ := reps_cons_inv h
    rw [rep_int_inv h1, reps_ints h2]
    rfl
mutual
noncomputable def D.pl : D → Bool
  | .bl _ => false
  | .tup ds => D.pls ds
  | _ => true
noncomputable def D.pls : List D → Bool
  | [] => true
  | d :: ds => d.pl && D.pls ds
end
mutual
noncomputable def D.dep : D → Nat
  | .tup ds => D.deps ds + 1
  | _ => 0
noncomputable def D.deps : List D → Nat
  | [] => 0
  | d :: ds => max d.dep (D.deps ds)
end
theorem D.pls_get : ∀ {ds : List D} {i : Nat} {d : D}, D.pls ds = true → ds[i]? = some d → d.pl = true
  | [], i, d, _, e => by simp at e
  | d :: ds, 0, d', h, e => by
    simp at e; subst e
    rw [D.pls, Bool.and_eq_true] at h
    exact h.1
  | d :: ds, i + 1, d', h, e => by
    rw [D.pls, Bool.and_eq_true] at h
    exact D.pls_get (i := i) h.2 (by simpa using e)
theorem D.deps_get : ∀ {ds : List D} {i : Nat} {d : D}, ds[i]? = some d → d.dep ≤ D.deps ds
  | [], i, d, e => by simp at e
  | d :: ds, 0, d', e => by
    simp at e; subst e
    rw [D.deps]; omega
  | d :: ds, i + 1, d', e => by
    have := D.deps_get (ds := ds) (i := i) (d := d') (by simpa using e)
    rw [D.deps]; omega
open Classical in
noncomputable def eqD (d e : D) : Bool := decide (d = e)
theorem eqD_true {d e : D} : eqD d e = true ↔ d = e := by unfold eqD; simp
theorem eqD_same {d : D} : eqD d d = true := eqD_true.mpr rfl
theorem eqD_false {d e : D} (h : d ≠ e) : eqD d e = false := by unfold eqD; simp [h]
theorem eqD_int {i j : Int} : eqD (.int i) (.int j) = (i == j) := by
  by_cases h : i = j
  · subst h; rw [eqD_same]; simp
  · rw [eqD_false (by intro z; cases z; exact h rfl)]; simp [h]
theorem eqD_str {i j : Str} : eqD (.str i) (.str j) = (i == j) := by
  by_cases h : i = j
  · subst h; rw [eqD_same]; simp
  · rw [eqD_false (by intro z; cases z; exact h rfl)]; simp [h]
noncomputable def eqAtJ (ds es : List D) (f : D → D → Bool) (j : Nat) : Bool := match ds[j]?, es[j]? with | some a, some b => f a b | _, _ => false
theorem eqD_tup {ds es : List D} : ((List.range (min ds.length es.length)).all (eqAtJ ds es eqD) && ds.length == es.length) = eqD (.tup ds) (.tup es) := by
  by_cases h : ds = es
  · subst h
    rw [eqD_same]
    simp only [beq_self_eq_true, Bool.and_true, List.all_eq_true, List.mem_range]
    intro j hj
    have hj : j < ds.length := by omega
    unfold eqAtJ
    rw [List.getElem?_eq_getElem hj]
    exact eqD_same
  · rw [eqD_false (by intro z; cases z; exact h rfl)]
    by_cases hl : ds.length = es.length
    · rw [Bool.and_eq_false_iff]
      left
      rw [← Bool.not_eq_true]
      intro hall
      apply h
      refine List.ext_getElem? fun j => ?_
      by_cases hj : j < ds.length
      · have hj' : j < es.length := by omega
        have := List.all_eq_true.mp hall j (List.mem_range.mpr (by omega))
        unfold eqAtJ at this
        rw [List.getElem?_eq_getElem hj, List.getElem?_eq_getElem hj'] at this
        rw [List.getElem?_eq_getElem hj, List.getElem?_eq_getElem hj', eqD_true.mp this]
      · rw [List.getElem?_eq_none (by omega), List.getElem?_eq_none (by omega)]
    · rw [Bool.and_eq_false_iff]
      right
      simpa using hl
section
variable {X : Cx} {pins : List (Addr × Obj)} {σ : St} {H : Hp} {s : Shared}
theorem Inv.isTup (I : Inv X pins σ H s) {a : Addr} {xs : List V} (h : H a = some (.tup xs)) : ∃ its : List Value, Vals xs its ∧ s.heap.IsTuple a its.toArray := by
  obtain ⟨_, its, r, p⟩ := (show ObjOk X.prog X.w H s.heap a (.tup xs) from I.hok a _ h)
  exact ⟨its, r, p⟩
theorem eqAt_flat (I : Inv X pins σ H s) {d e : D} {x y : V} {u v : Value} {A : Around} (hd : d.dep = 0) (pd : d.pl = true) (pe : e.pl = true) (rd : Rep H d x) (re : Rep H e y) (ru : RelV x u) (rv : RelV y v) (hu : A.units < cLine) : SeqAt.EqAt A s u v (eqD d e) := by
  cases d with
  | tup ds => rw [D.dep] at hd; omega
  | bl b => simp [D.pl] at pd
  | non =>
    rw [Rep] at rd; subst rd; cases ru
    cases e with
    | bl b => simp [D.pl] at pe
    | non => rw [Rep] at re; subst re; cases rv; rw [eqD_same]; exact SeqAt.EqAt.same _
    | int b => rw [Rep] at re; subst re; obtain ⟨t, rfl⟩ := rv; rw [eqD_false (by intro z; cases z)]; exact SeqAt.EqAt.none_int b t
    | str b => rw [Rep] at re; subst re; obtain ⟨t, rfl⟩ := rv; rw [eqD_false (by intro z; cases z)]; exact SeqAt.EqAt.none_str b t
    | tup es =>
      rw [Rep] at re
      obtain ⟨a, xs, rfl, ha, _⟩ := re
      cases rv
      obtain ⟨its, _, ht⟩ := I.isTup ha
      rw [eqD_false (by intro z; cases z)]
      exact SeqAt.EqAt.none_tuple ht hu
  | int i =>
    rw [Rep] at rd; subst rd; obtain ⟨t, rfl⟩ := ru
    cases e with
    | bl b => simp [D.pl] at pe
    | non => rw [Rep] at re; subst re; cases rv; rw [eqD_false (by intro z; cases z)]; exact SeqAt.EqAt.int_none i t
    | int b => rw [Rep] at re; subst re; obtain ⟨t', rfl⟩ := rv; rw [eqD_int]; exact SeqAt.EqAt.int_int i t b t'
    | str b => rw [Rep] at re; subst re; obtain ⟨t', rfl⟩ := rv; rw [eqD_false (by intro z; cases z)]; exact SeqAt.EqAt.int_str i t b t'
    | tup es =>
      rw [Rep] at re
      obtain ⟨a, xs, rfl, ha, _⟩ := re
      cases rv
      obtain ⟨its, _, ht⟩ := I.isTup ha
      rw [eqD_false (by intro z; cases z)]
      exact SeqAt.EqAt.int_tuple i t ht hu
  | str i =>
    rw [Rep] at rd; subst rd; obtain ⟨t, rfl⟩ := ru
    cases e with
    | bl b => simp [D.pl] at pe
    | non => rw [Rep] at re; subst re; cases rv; rw [eqD_false (by intro z; cases z)]; exact SeqAt.EqAt.str_none i t
    | int b => rw [Rep] at re; subst re; obtain ⟨t', rfl⟩ := rv; rw [eqD_false (by intro z; cases z)]; exact SeqAt.EqAt.str_int i t b t'
    | str b => rw [Rep] at re; subst re; obtain ⟨t', rfl⟩ := rv; rw [eqD_str]; exact SeqAt.EqAt.str_str i t b t'
    | tup es =>
      rw [Rep] at re
      obtain ⟨a, xs, rfl, ha, _⟩ := re
      cases rv
      obtain ⟨its, _, ht⟩ := I.isTup ha
      rw [eqD_false (by intro z; cases z)]
      exact SeqAt.EqAt.str_tuple i t ht hu
mutual
theorem Rep.inj {H : Hp} : ∀ {d e : D} {v : V}, Rep H d v → Rep H e v → d = e
  | .non, .non, _, _, _ => rfl
  | .bl a, .bl b, v, h, h' => by simp only [Rep] at h h'; rw [h] at h'; cases h'; rfl
  | .int a, .int b, v, h, h' => by simp only [Rep] at h h'; rw [h] at h'; cases h'; rfl
  | .str a, .str b, v, h, h' => by simp only [Rep] at h h'; rw [h] at h'; cases h'; rfl
  | .tup ds, .tup es, v, h, h' => by
    rw [Rep] at h h'
    obtain ⟨a, xs, rfl, ha, r⟩ := h
    obtain ⟨b, ys, e, hb, r'⟩ := h'
    cases e
    rw [ha] at hb; cases hb
    rw [Reps.inj r r']
  | .non, .bl _, v, h, h' => by simp only [Rep] at h h'; rw [h] at h'; cases h'
  | .non, .int _, v, h, h' => by simp only [Rep] at h h'; rw [h] at h'; cases h'
  | .non, .str _, v, h, h' => by simp only [Rep] at h h'; rw [h] at h'; cases h'
  | .non, .tup _, v, h, h' => by simp only [Rep] at h h'; obtain ⟨_, _, e, _⟩ := h'; rw [h] at e; cases e
  | .bl _, .non, v, h, h' => by simp only [Rep] at h h'; rw [h] at h'; cases h'
  | .bl _, .int _, v, h, h' => by simp only [Rep] at h h'; rw [h] at h'; cases h'
  | .bl _, .str _, v, h, h' => by simp only [Rep] at h h'; rw [h] at h'; cases h'
  | .bl _, .tup _, v, h, h' => by simp only [Rep] at h h'; obtain ⟨_, _, e, _⟩ := h'; rw [h] at e; cases e
  | .int _, .non, v, h, h' => by simp only [Rep] at h h'; rw [h] at h'; cases h'
  | .int _, .bl _, v, h, h' => by simp only [Rep] at h h'; rw [h] at h'; cases h'
  | .int _, .str _, v, h, h' => by simp only [Rep] at h h'; rw [h] at h'; cases h'
  | .int _, .tup _, v, h, h' => by simp only [Rep] at h h'; obtain ⟨_, _, e, _⟩ := h'; rw [h] at e; cases e
  | .str _, .non, v, h, h' => by simp only [Rep] at h h'; rw [h] at h'; cases h'
  | .str _, .bl _, v, h, h' => by simp only [Rep] at h h'; rw [h] at h'; cases h'
  | .str _, .int _, v, h, h' => by simp only [Rep] at h h'; rw [h] at h'; cases h'
  | .str _, .tup _, v, h, h' => by simp only [Rep] at h h'; obtain ⟨_, _, e, _⟩ := h'; rw [h] at e; cases e
  | .tup _, .non, v, h, h' => by simp only [Rep] at h h'; obtain ⟨_, _, e, _⟩ := h; rw [h'] at e; cases e
  | .tup _, .bl _, v, h, h' => by simp only [Rep] at h h'; obtain ⟨_, _, e, _⟩ := h; rw [h'] at e; cases e
  | .tup _, .int _, v, h, h' => by simp only [Rep] at h h'; obtain ⟨_, _, e, _⟩ := h; rw [h'] at e; cases e
  | .tup _, .str _, v, h, h' => by simp only [Rep] at h h'; obtain ⟨_, _, e, _⟩ := h; rw [h'] at e; cases e
theorem Reps.inj {H : Hp} : ∀ {ds es : List D} {vs : List V}, Reps H ds vs → Reps H es vs → ds = es
  | [], [], _, _, _ => rfl
  | [], e :: es, vs, h, h' => by rw [reps_nil_inv h] at h'; obtain ⟨_, _, z, _⟩ := reps_cons_inv h'; cases z
  | d :: ds, [], vs, h, h' => by rw [reps_nil_inv h'] at h; obtain ⟨_, _, z, _⟩ := reps_cons_inv h; cases z
  | d :: ds, e :: es, vs, h, h' => by
    obtain ⟨v, r, rfl, h1, h2⟩ := reps_cons_inv h
    obtain ⟨v', r', z, h1', h2'⟩ := reps_cons_inv h'
    cases z
    rw [Rep.inj h1 h1', Reps.inj h2 h2']
end
theorem eqAt_D (I : Inv X pins σ H s) : ∀ (n : Nat) {d e : D} {x y : V} {u v : Value} {A : Around}, d.dep ≤ n → d.pl = true → e.pl = true → Rep H d x → Rep H e y → RelV x u → RelV y v → A.units + n < cLine → SeqAt.EqAt A s u v (eqD d e) := by
  intro n
  induction n with
  | zero =>
    intro d e x y u v A hn pd pe rd re ru rv hu
    exact eqAt_flat I (by omega) pd pe rd re ru rv (by omega)
  | succ n ih =>
    intro d e x y u v A hn pd pe rd re ru rv hu
    by_cases h0 : d.dep = 0
    · exact eqAt_flat I h0 pd pe rd re ru rv (by omega)
    · cases d with
      | non => simp [D.dep] at h0
      | bl _ => simp [D.dep] at h0
      | int _ => simp [D.dep] at h0
      | str _ => simp [D.dep] at h0
      | tup ds =>
        obtain ⟨a, xs, rfl, ha, r⟩ := rep_tup_inv rd
        cases ru
        obtain ⟨its, vx, ht⟩ := I.isTup ha
        cases e with
        | bl b => simp [D.pl] at pe
        | non => rw [Rep] at re; subst re; cases rv; rw [eqD_false (by intro z; cases z)]; exact SeqAt.EqAt.tuple_none ht (by omega)
        | int b => rw [Rep] at re; subst re; obtain ⟨t, rfl⟩ := rv; rw [eqD_false (by intro z; cases z)]; exact SeqAt.EqAt.tuple_int b t ht (by omega)
        | str b => rw [Rep] at re; subst re; obtain ⟨t, rfl⟩ := rv; rw [eqD_false (by intro z; cases z)]; exact SeqAt.EqAt.tuple_str b t ht (by omega)
        | tup es =>
          obtain ⟨b, ys, rfl, hb, r'⟩ := rep_tup_inv re
          cases rv
          by_cases hab : a = b
          · subst hab
            rw [Rep.inj rd re, eqD_same]
            exact SeqAt.EqAt.same _
          · obtain ⟨its', vy, ht'⟩ := I.isTup hb
            refine SeqAt.EqAt.of_refs hab ?_
            have l1 := vx.length
            have l2 := vy.length
            have l3 := r.length
            have l4 := r'.length
            have key := SeqAt.RcAt.tuples (A := A) (e := eqAtJ ds es eqD) ht ht' (by omega) fun j h1 h2 => ?_
            · rw [← eqD_tup, l3, l4, l1, l2]
              simpa using key
            · have h1' : j < its.length := by simpa using h1
              have h2' : j < its'.length := by simpa using h2
              have e1 : ds[j]? = some (ds[j]'(by omega)) := List.getElem?_eq_getElem _
              have e2 : es[j]? = some (es[j]'(by omega)) := List.getElem?_eq_getElem _
              obtain ⟨v1, q1, p1⟩ := r.get e1
              obtain ⟨v2, q2, p2⟩ := r'.get e2
              obtain ⟨u1, z1, w1⟩ := vx.get q1
              obtain ⟨u2, z2, w2⟩ := vy.get q2
              have y1 : its.toArray[j] = u1 := by
                have : its[j]? = some its[j] := List.getElem?_eq_getElem h1'
                rw [z1] at this
                simpa using (Option.some.inj this).symm
              have y2 : its'.toArray[j] = u2 := by
                have : its'[j]? = some its'[j] := List.getElem?_eq_getElem h2'
                rw [z2] at this
                simpa using (Option.some.inj this).symm
              rw [y1, y2]
              unfold eqAtJ
              rw [e1, e2]
              rw [D.dep] at hn
              have hdep := D.deps_get e1
              rw [D.pl] at pd pe
              exact ih (by omega) (D.pls_get pd e1) (D.pls_get pe e2) p1 p2 w1 w2 (by show A.units + 1 + n < cLine; omega)
end
end L2

end
section
set_option Elab.async false
set_option linter.all false
set_option maxRecDepth 100000
set_option maxHeartbeats 4000000
namespace L2
open PySem PySem.Spec PyProof.Rows
section
variable {X : Cx}
/-! ### == and != of tuples and lists, deep -/
theorem items_at {X : Cx} {pins : List (Addr × Obj)} {σ : St} {H : Hp} {s : Shared} {A : Around} (I : Inv X pins σ H s) {ds es : List D} {xs ys : List V} {its its' : List Value} (vx : Vals xs its) (vy : Vals ys its') (r : Reps H ds xs) (r' : Reps H es ys) (pd : D.pls ds = true) (pe : D.pls es = true)
    (hd : D.deps ds ≤ 40) (hu : A.units + 40 < cLine) : ∀ j (h1 : j < its.toArray.size) (h2 : j < its'.toArray.size), SeqAt.EqAt A s its.toArray[j] its'.toArray[j] (eqAtJ ds es eqD j) := by
  intro j h1 h2
  have l1 := vx.length
  have l2 := vy.length
  have l3 := r.length
  have l4 := r'.length
  have h1' : j < its.length := by simpa using h1
  have h2' : j < its'.length := by simpa using h2
  have e1 : ds[j]? = some (ds[j]'(by omega)) := List.getElem?_eq_getElem _
  have e2 : es[j]? = some (es[j]'(by omega)) := List.getElem?_eq_getElem _
  obtain ⟨v1, q1, p1⟩ := r.get e1
  obtain ⟨v2, q2, p2⟩ := r'.get e2
  obtain ⟨u1, z1, w1⟩ := vx.get q1
  obtain ⟨u2, z2, w2⟩ := vy.get q2
  have y1 : its.toArray[j] = u1 := by
    have : its[j]? = some its[j] := List.getElem?_eq_getElem h1'
    rw [z1] at this
    simpa using (Option.some.inj this).symm
  have y2 : its'.toArray[j] = u2 := by
    have : its'[j]? = some its'[j] := List.getElem?_eq_getElem h2'
    rw [z2] at this
    simpa using (Option.some.inj this).symm
  rw [y1, y2]
  unfold eqAtJ
  rw [e1, e2]
  have hdep := D.deps_get e1
  exact eqAt_D I 40 (by omega) (D.pls_get pd e1) (D.pls_get pe e2) p1 p2 w1 w2 hu
noncomputable def rEqL (K : PySem.W.Frag) : R2 := fun x y H Q => ∃ a b xs ys ds es, x = .ref a ∧ y = .ref b ∧ SqL K H a xs ∧ SqL K H b ys ∧ Reps H ds xs ∧ Reps H es ys ∧ D.pls ds = true ∧ D.pls es = true ∧ D.deps ds ≤ 40 ∧ Q (.bl (eqD (.tup ds) (.tup es))) H
noncomputable def rNeL (K : PySem.W.Frag) : R2 := fun x y H Q => ∃ a b xs ys ds es, x = .ref a ∧ y = .ref b ∧ SqL K H a xs ∧ SqL K H b ys ∧ Reps H ds xs ∧ Reps H es ys ∧ D.pls ds = true ∧ D.pls es = true ∧ D.deps ds ≤ 40 ∧ Q (.bl (!eqD (.tup ds) (.tup es))) H
theorem op_eqL (hu : X.A.units + 64 < cLine) : OpR X (compareOp .Eq) (rEqL X.K) := by
  rintro pins s σ H x y v u Q I rx ry ⟨a, b, xs, ys, ds, es, rfl, rfl, ha, hb, r, r', pd, pe, hd, q⟩
  cases rx; cases ry
  obtain ⟨its, vx, ht, _⟩ := I.list ha
  obtain ⟨its', vy, ht', _⟩ := I.list hb
  by_cases hl : its.length = its'.length
  · refine SeqAt.eq_listAt (e := eqAtJ ds es eqD) ht.isList ht'.isList (by simpa using hl) (by omega) (items_at (A := X.A.in1) I vx vy r r' pd pe hd (by show X.A.units + 1 + 40 < cLine; omega)) ?_
    refine fin_bl I q ?_
    rw [← eqD_tup, r.length, r'.length, vx.length, vy.length, hl]
    simp [hl]
  · refine SeqAt.eq_list_lengthsAt ht.isList ht'.isList (by simpa using hl) (by omega) (fin_bl I q ?_)
    refine eqD_false fun z => hl ?_
    cases z
    rw [← vx.length, ← vy.length, ← r.length, ← r'.length]
theorem op_neL (hu : X.A.units + 64 < cLine) : OpR X (compareOp .NotEq) (rNeL X.K) := by
  rintro pins s σ H x y v u Q I rx ry ⟨a, b, xs, ys, ds, es, rfl, rfl, ha, hb, r, r', pd, pe, hd, q⟩
  cases rx; cases ry
  obtain ⟨its, vx, ht, _⟩ := I.list ha
  obtain ⟨its', vy, ht', _⟩ := I.list hb
  by_cases hl : its.length = its'.length
  · refine SeqAt.RcNeAt.lists (e := eqAtJ ds es eqD) ht.isList ht'.isList (by simpa using hl) (by omega) (items_at (A := X.A.in1) I vx vy r r' pd pe hd (by show X.A.units + 1 + 40 < cLine; omega)) _ _ _ _ ?_
    refine fin_bl I q ?_
    rw [← eqD_tup, r.length, r'.length, vx.length, vy.length, hl]
    simp [hl]
  · refine SeqAt.RcNeAt.lists_lengths ht.isList ht'.isList (by simpa using hl) (by omega) _ _ _ _ (fin_bl I q ?_)
    rw [eqD_false fun z => hl ?_]
    · rfl
    · cases z
      rw [← vx.length, ← vy.length, ← r.length, ← r'.length]

/-! ### is, is not, of truths -/
/-! ### products and quotients of long numbers -/
noncomputable def CBig (i j : Int) : Prop := i.natAbs < 2 ^ 8000 ∧ j.natAbs < 2 ^ 8000
theorem bits_big {i : Int} (h : i.natAbs < 2 ^ 8000) : Builtin.Int.intBits i ≤ 8000 := by
  unfold Builtin.Int.intBits
  by_cases h0 : i = 0
  · simp [h0]
  · have : (i == 0) = false := by simpa using h0
    rw [this]
    have := (Nat.log2_lt (show i.natAbs ≠ 0 by omega)).mpr h
    simp
    omega
theorem CBig.ok {i j : Int} (h : CBig i j) : IntMulOk i j := by
  unfold IntMulOk
  have h1 := bits_big h.1
  have h2 := bits_big h.2
  have hb : Builtin.Int.intTooBig (Builtin.Int.intBits i + Builtin.Int.intBits j) = false := by
    unfold Builtin.Int.intTooBig
    rw [decide_eq_false]
    have : (16000 : Int) ≤ bitsLine := by decide
    omega
  rw [hb]
  simp
theorem op_mulB : OpR X (binaryOp .Mult) (rI CBig fun i j => .int (i * j)) := opI fun _ _ _ _ _ _ _ hc q => mul_int q hc.ok
noncomputable def CDivB (i j : Int) : Prop := 0 < j ∧ j.natAbs < 2 ^ 8000
theorem op_fdivB : OpR X (binaryOp .FloorDiv) (rI CDivB fun i j => .int (i / j)) := opI fun i j _ _ _ _ _ hc q => by
  have hj : j ≠ 0 := by have := hc.1; omega
  refine floordiv_int hj ?_ (.inl (PyProof.noPylong_of_log2 ?_))
  · rw [Int.fdiv_eq_ediv_of_nonneg _ (by have := hc.1; omega)]
    exact q
  · have := (Nat.log2_lt (show j.natAbs ≠ 0 by omega)).mpr hc.2
    omega

/-! ### sum of a list of ints -/
/-! ### isinstance of a built-in type -/
noncomputable def isi (t T : String) : Bool := t == T || (t == "bool" && T == "int")
theorem kit_of {K : PySem.W.Frag} : ∀ {t T : String}, t ∈ ["int", "bool", "str", "tuple", "list", "dict", "NoneType"] → T ∈ ["int", "bool", "str", "tuple", "list", "dict"] → PySem.W.kitOne K (.type t) (.type T) = some (isi t T) := by
  intro t T ht hT
  simp only [List.mem_cons, List.mem_nil_iff, or_false] at ht hT
  rcases ht with rfl | rfl | rfl | rfl | rfl | rfl | rfl <;> rcases hT with rfl | rfl | rfl | rfl | rfl | rfl <;> with_unfolding_all rfl
/-- the type of a value by the abstract heap -/
noncomputable def tyN (H : Hp) : V → Option String
  | .non => some "NoneType"
  | .bl _ => some "bool"
  | .int _ => some "int"
  | .str _ => some "str"
  | .ref a => match H a with
    | some (.lst _) => some "list"
    | some (.frz _ (.lst _)) => some "list"
    | some (.tup _) => some "tuple"
    | some (.dK _) => some "dict"
    | some (.dT _) => some "dict"
    | _ => none
  | _ => none
theorem tyN_of {K : PySem.W.Frag} {H : Hp} {x : V} {t : String} (h : tyN H x = some t) : TyOf K H x (.type t) ∧ t ∈ ["int", "bool", "str", "tuple", "list", "dict", "NoneType"] := by
  cases x with
  | non => cases h; exact ⟨.non, by simp⟩
  | bl b => cases h; exact ⟨.bl b, by simp⟩
  | int i => cases h; exact ⟨.int i, by simp⟩
  | str y => cases h; exact ⟨.str y, by simp⟩
  | ref a =>
    simp only [tyN] at h
    split at h
    · rename_i e; cases h; exact ⟨.lst e, by simp⟩
    · rename_i e; cases h; exact ⟨.frz e, by simp⟩
    · rename_i e; cases h; exact ⟨.tup e, by simp⟩
    · rename_i e; cases h; exact ⟨.dK e, by simp⟩
    · rename_i e; cases h; exact ⟨.dT e, by simp⟩
    · cases h
  | byt _ => cases h
  | flt _ => cases h
  | ty _ => cases h
noncomputable def rIsi : List V → Hp → VK → Prop := fun xs H Q => ∃ x T t, xs = [x, .ty T] ∧ tyN H x = some t ∧ T ∈ ["int", "bool", "str", "tuple", "list", "dict"] ∧ Q (.bl (isi t T)) H
theorem call_isi : CallR X (.builtin "isinstance") rIsi := by
  intro pins s σ H xs us Q I r h
  obtain ⟨x, T, t, rfl, ht, hT, q⟩ := h
  cases r with
  | cons r1 r2 =>
    cases r2 with
    | cons r3 r4 =>
      cases r4
      cases r3
      obtain ⟨ty, hm⟩ := tyN_of (K := X.K) ht
      exact isinst_ok I r1 ty (kit_of hm hT) fun tk => ⟨.bl _, H, I.tok _, rfl, q⟩
end

/-! ### a def of the text, called by its name -/
structure Callee (P : Program) (w : World) (K : PySem.W.Frag) (mg : Str → Option Value) (base : Heap) (x : Str) (k : Nat) (ps : List Str) (sp : Sp) : Prop where
  ex : ∃ f fd, FnOk P w K mg base CX0 k f fd ps sp ∧ mg x = some (.ref f) ∧ PySem.W.keepIn K (.ref f) = true ∧ Binds K fd ps []
theorem pe_fn {X : Cx} {x : Str} {k : Nat} {ps : List Str} {sp : Sp} {p pos : Pos} {e : Expr} {es : List Expr} {t : TA} (C : Callee X.prog X.w X.K X.mg X.base x k ps sp) (hr : Room k X.A) (hg : Gl X x) (ha : PA X (e :: es) t) (hdb : (x == ("__debug__" : Str)) = false := by decide)
    (he : starEach (e :: es) X.env = (false, eval e X.env) :: starEach es X.env := by rfl) (hpl : (backTo pos (starEach es X.env)).any (·.1) = false := by rfl) :
    PE X (.Call (.Name x p) (e :: es) [] pos) (tCall sp [] E0 t) := by
  obtain ⟨f, fd, F, hm, hk, hb⟩ := C.ex
  exact pe_call F hr hg hm hk hb .nil pass0 ha hdb he hpl
/-! ### comprehensions: the forms one uses -/
section
variable {K : PySem.W.Frag} {a : Addr} {xs : List V} {g : TG} {tt : TT} {te : TE} {Q : VK} {σ : St} {H : Hp}
/-- one more turn -/
noncomputable def CN (Pv : Nat → List V → St → Hp → Prop) (i : Nat) (ys' : List V) (σ' : St) (H' : Hp) : Prop := ys'.length ≤ i + 1 ∧ Pv (i + 1) ys' σ' H'
theorem cw_of {J : It} (n : Nat) (hz : n ≤ sizeLine) (Pv : Nat → List V → St → Hp → Prop) (h0 : Pv 0 [] σ H) (hgo : ∀ i ys σ H, i < n → Pv i ys σ H → J.go i H) (hstop : ∀ ys σ H, Pv n ys σ H → J.stop n H)
    (hs : ∀ i x ys σ H H2, i < n → ys.length ≤ i → ys.length < sizeLine → Pv i ys σ H → J.yld i H x H2 → g x σ H2 fun σ2 H3 => tt σ2 H3 fun ok H4 => if ok = true then te σ2 H4 fun y H5 => ys.length < sizeLine ∧ CN Pv i (ys ++ [y]) σ2 H5 else CN Pv i ys σ2 H4)
    (hd : ∀ ys σ H, ys.length ≤ n → Pv n ys σ H → ∀ p, H p = none → Q (.ref p) (upd H p (.lst ys))) :
    ∃ W : Nat → Nat → List V → St → Hp → Prop, (∃ m, W 0 m [] σ H) ∧ CW J g tt te W Q := by
  refine ⟨fun i m ys σ H => m = n - i ∧ i ≤ n ∧ ys.length ≤ i ∧ Pv i ys σ H, ⟨n, by simp, Nat.zero_le _, Nat.le_refl _, h0⟩, ?_⟩
  rintro i m ys σ H ⟨rfl, hi, hy, p⟩
  by_cases hlt : i < n
  · exact .inr ⟨hgo i ys σ H hlt p, CN Pv i, fun ys' σ' H' p' => ⟨n - (i + 1), by omega, rfl, hlt, p'.1, p'.2⟩, fun x H2 y => hs i x ys σ H H2 hlt hy (by omega) p y⟩
  · have e : i = n := by omega
    subst e
    exact .inl ⟨hstop ys σ H p, by omega, hd ys σ H hy p⟩
theorem cw_list (hz : xs.length ≤ sizeLine) (Pv : Nat → List V → St → Hp → Prop) (h0 : Pv 0 [] σ H) (hl : ∀ i ys σ H, i ≤ xs.length → Pv i ys σ H → SqL K H a xs)
    (hs : ∀ i x ys σ H, xs[i]? = some x → ys.length ≤ i → ys.length < sizeLine → Pv i ys σ H → g x σ H fun σ2 H3 => tt σ2 H3 fun ok H4 => if ok = true then te σ2 H4 fun y H5 => ys.length < sizeLine ∧ CN Pv i (ys ++ [y]) σ2 H5 else CN Pv i ys σ2 H4)
    (hd : ∀ ys σ H, ys.length ≤ xs.length → Pv xs.length ys σ H → ∀ p, H p = none → Q (.ref p) (upd H p (.lst ys))) :
    ∃ W : Nat → Nat → List V → St → Hp → Prop, (∃ m, W 0 m [] σ H) ∧ CW (Itl K a) g tt te W Q := by
  refine cw_of xs.length hz Pv h0 (fun i ys σ H hi p => ⟨xs, xs[i], hl i ys σ H (Nat.le_of_lt hi) p, by simp [hi]⟩) (fun ys σ H p => ⟨xs, hl _ ys σ H (Nat.le_refl _) p, Nat.le_refl _⟩) (fun i x ys σ H H2 hi h1 h2 p y => ?_) hd
  obtain ⟨rfl, y⟩ := y
  exact hs i x ys σ _ (y xs (hl i ys σ _ (Nat.le_of_lt hi) p)) h1 h2 p
theorem cw_tup (hz : xs.length ≤ sizeLine) (Pv : Nat → List V → St → Hp → Prop) (h0 : Pv 0 [] σ H) (hl : ∀ i ys σ H, i ≤ xs.length → Pv i ys σ H → SqT K H a xs)
    (hs : ∀ i x ys σ H, xs[i]? = some x → ys.length ≤ i → ys.length < sizeLine → Pv i ys σ H → g x σ H fun σ2 H3 => tt σ2 H3 fun ok H4 => if ok = true then te σ2 H4 fun y H5 => ys.length < sizeLine ∧ CN Pv i (ys ++ [y]) σ2 H5 else CN Pv i ys σ2 H4)
    (hd : ∀ ys σ H, ys.length ≤ xs.length → Pv xs.length ys σ H → ∀ p, H p = none → Q (.ref p) (upd H p (.lst ys))) :
    ∃ W : Nat → Nat → List V → St → Hp → Prop, (∃ m, W 0 m [] σ H) ∧ CW (Itt K a) g tt te W Q := by
  refine cw_of xs.length hz Pv h0 (fun i ys σ H hi p => ⟨xs, xs[i], hl i ys σ H (Nat.le_of_lt hi) p, by simp [hi]⟩) (fun ys σ H p => ⟨xs, hl _ ys σ H (Nat.le_refl _) p, Nat.le_refl _⟩) (fun i x ys σ H H2 hi h1 h2 p y => ?_) hd
  obtain ⟨rfl, y⟩ := y
  exact hs i x ys σ _ (y xs (hl i ys σ _ (Nat.le_of_lt hi) p)) h1 h2 p
theorem cw_range {lo : Int} {n : Nat} (hz : n ≤ sizeLine) (Pv : Nat → List V → St → Hp → Prop) (h0 : Pv 0 [] σ H)
    (hs : ∀ i ys σ H, i < n → ys.length ≤ i → ys.length < sizeLine → Pv i ys σ H → g (.int (lo + i)) σ H fun σ2 H3 => tt σ2 H3 fun ok H4 => if ok = true then te σ2 H4 fun y H5 => ys.length < sizeLine ∧ CN Pv i (ys ++ [y]) σ2 H5 else CN Pv i ys σ2 H4)
    (hd : ∀ ys σ H, ys.length ≤ n → Pv n ys σ H → ∀ p, H p = none → Q (.ref p) (upd H p (.lst ys))) :
    ∃ W : Nat → Nat → List V → St → Hp → Prop, (∃ m, W 0 m [] σ H) ∧ CW (Itr lo n) g tt te W Q := by
  refine cw_of n hz Pv h0 (fun i ys σ H hi p => hi) (fun ys σ H p => Nat.le_refl _) (fun i x ys σ H H2 hi h1 h2 p y => ?_) hd
  obtain ⟨rfl, rfl⟩ := y
  exact hs i ys σ _ hi h1 h2 p
end
end L2

end
section
set_option Elab.async false
set_option linter.all false
set_option maxRecDepth 100000
set_option maxHeartbeats 4000000
namespace L2
open PySem PySem.Spec PyProof.Rows
/-! ### readings, step by step (each is what its word says, written so that refine finds it) -/
section
variable {σ : St} {H : Hp} {Q : VK} {v x y : V} {ta tb tc te : TE} {t u : TS} {c d : TT} {D' : Ends} {r : R2} {g : TG} {i j : Int} {n : Nat} {K : PySem.W.Frag}
theorem rd_var (e : σ[n]? = some (some v)) (h : Q v H) : tVar n σ H Q := ⟨v, e, h⟩
theorem rd_c (h : Q v H) : tC v σ H Q := h
theorem rd_op (h : ta σ H fun x H1 => tb σ H1 fun y H2 => r x y H2 Q) : tOp r ta tb σ H Q := h
theorem rd_un {r : V → Hp → VK → Prop} (h : ta σ H fun x H1 => r x H1 Q) : tUn r ta σ H Q := h
theorem rd_seq (h : t { D' with nx := u D' } σ H) : tSeq t u D' σ H := h
theorem rd_asg (h : te σ H fun x H1 => g x σ H1 D'.nx) : tAsg te g D' σ H := h
theorem rd_gname {R : St → Hp → Prop} (h : R (σ.set n (some v)) H) : gName n v σ H R := h
theorem rd_ret (h : te σ H D'.rt) : tRet te D' σ H := h
theorem rd_drop (h : te σ H fun _ H1 => D'.nx σ H1) : tDrop te D' σ H := h
theorem rd_next (h : D'.nx σ H) : tNext D' σ H := h
theorem rd_if (h : c σ H fun b H1 => if b = true then t D' σ H1 else u D' σ H1) : tIfS c t u D' σ H := h
theorem rd_test {R : Bool → Hp → Prop} (h : ta σ H fun x H' => ∃ k, x = .bl k ∧ R k H') : tTest ta σ H R := h
theorem rd_tb {R : Bool → Hp → Prop} (h : ta σ H fun x H' => ∃ k, x = .bl k ∧ R k H') : tB ta σ H R := h
theorem rd_and {R : Bool → Hp → Prop} (h : c σ H fun b H1 => if b = true then d σ H1 R else R false H1) : tAnd c d σ H R := h
theorem rd_or {R : Bool → Hp → Prop} (h : c σ H fun b H1 => if b = true then R true H1 else d σ H1 R) : tOr c d σ H R := h
theorem rd_not {R : Bool → Hp → Prop} (h : c σ H fun b H1 => R (!b) H1) : tNot c σ H R := h
theorem rd_true {R : Bool → Hp → Prop} (h : R true H) : tTrue σ H R := h
theorem rd_andV (h : ta σ H fun x H1 => ∃ c, x = .bl c ∧ if c = true then tb σ H1 Q else Q (.bl false) H1) : tAndV ta tb σ H Q := h
theorem rd_orV (h : ta σ H fun x H1 => ∃ c, x = .bl c ∧ if c = true then Q (.bl true) H1 else tb σ H1 Q) : tOrV ta tb σ H Q := h
theorem rd_ifE (h : c σ H fun b H1 => if b = true then ta σ H1 Q else tb σ H1 Q) : tIf c ta tb σ H Q := h
theorem rd_chain {r r' : R2} (h : ta σ H fun x H1 => tb σ H1 fun y H2 => r x y H2 fun z H3 => ∃ k, z = .bl k ∧ (if k = true then tc σ H3 fun w' H4 => r' y w' H4 Q else Q (.bl false) H3)) : tChain r r' ta tb tc σ H Q := h
theorem rd_nil {R : List V → Hp → Prop} (h : R [] H) : tNil σ H R := h
theorem rd_cons {tr : TA} {R : List V → Hp → Prop} (h : ta σ H fun x H1 => tr σ H1 fun xs H2 => R (x :: xs) H2) : tCons ta tr σ H R := h
theorem rd_cb {rr : List V → Hp → VK → Prop} {ta : TA} (h : ta σ H fun vs H1 => rr vs H1 Q) : tCB rr ta σ H Q := h
theorem rd_call {sp : Sp} {E : XK} {ta : TA} (h : ta σ H fun vs H1 => sp (vs ++ []) H1 Q E) : tCall sp [] E ta σ H Q := h
theorem rd_I0 {f : Int → Int → V} (h : Q (f i j) H) : rI0 f (.int i) (.int j) H Q := ⟨i, j, rfl, rfl, h⟩
theorem rd_I {C : Int → Int → Prop} {f : Int → Int → V} (hc : C i j) (h : Q (f i j) H) : rI C f (.int i) (.int j) H Q := ⟨i, j, rfl, rfl, hc, h⟩
theorem rd_U {f : Int → V} (h : Q (f i) H) : rU f (.int i) H Q := ⟨i, rfl, h⟩
theorem rd_eqI (h : Q (.bl (decide (i = j))) H) : rEq (.int i) (.int j) H Q := ⟨rfl, by rw [dec_int, Bool.beq_eq_decide_eq]; exact h⟩
theorem rd_neI (h : Q (.bl (!decide (i = j))) H) : rNe (.int i) (.int j) H Q := ⟨rfl, by rw [dec_int, Bool.beq_eq_decide_eq]; exact h⟩
theorem rd_eqS {a b : Str} (h : Q (.bl (decide (a = b))) H) : rEq (.str a) (.str b) H Q := ⟨rfl, by rw [dec_str, Bool.beq_eq_decide_eq]; exact h⟩
theorem rd_neS {a b : Str} (h : Q (.bl (!decide (a = b))) H) : rNe (.str a) (.str b) H Q := ⟨rfl, by rw [dec_str, Bool.beq_eq_decide_eq]; exact h⟩
theorem rd_eqB {a b : Bool} (h : Q (.bl (decide (a = b))) H) : rEq (.bl a) (.bl b) H Q := ⟨rfl, by rw [dec_bl, Bool.beq_eq_decide_eq]; exact h⟩
theorem rd_neB {a b : Bool} (h : Q (.bl (!decide (a = b))) H) : rNe (.bl a) (.bl b) H Q := ⟨rfl, by rw [dec_bl, Bool.beq_eq_decide_eq]; exact h⟩
theorem rd_bl {b : Bool} {R : Bool → Prop} (h : R b) : ∃ k, V.bl b = V.bl k ∧ R k := ⟨b, rfl, h⟩
theorem rd_tup {ta : TA} (h : ta σ H fun xs H1 => xs.length ≤ sizeLine ∧ ∀ p, H1 p = none → Q (.ref p) (upd H1 p (.tup xs))) : tTup ta σ H Q := h
theorem rd_lst {ta : TA} (h : ta σ H fun xs H1 => xs.length ≤ sizeLine ∧ ∀ p, H1 p = none → Q (.ref p) (upd H1 p (.lst xs))) : tLst ta σ H Q := h
theorem small_le {n : Nat} (h : n ≤ 1000) : n ≤ sizeLine := Nat.le_trans h (by decide)
/-- an item of a tuple, of a list -/
theorem rd_ixT {p : Addr} {xs : List V} (h : H p = some (.tup xs)) (e : atI xs i = some v) (q : Q v H) : rIxT K (.ref p) (.int i) H Q := ⟨p, xs, i, v, rfl, rfl, SqT.of h, e, q⟩
theorem rd_ixL {p : Addr} {xs : List V} (h : H p = some (.lst xs)) (e : atI xs i = some v) (q : Q v H) : rIxL K (.ref p) (.int i) H Q := ⟨p, xs, i, v, rfl, rfl, SqL.of h, e, q⟩
theorem rd_setL {p : Addr} {xs : List V} {k : Nat} {R : Hp → Prop} (h : H p = some (.lst xs)) (e : ixN xs.length i = some k) (q : R (upd H p (.lst (xs.set k v)))) : rSetL (.ref p) (.int i) v H R := ⟨p, xs, i, k, rfl, rfl, h, e, q⟩
theorem rd_gsub {to ti : TE} {ts : TSet} {R : St → Hp → Prop} (h : to σ H fun o H1 => ti σ H1 fun i H2 => ts o i v H2 fun H3 => R σ H3) : gSub to ti ts v σ H R := h
theorem rd_isi {x : V} {T t : String} (h : tyN H x = some t) (hT : T ∈ ["int", "bool", "str", "tuple", "list", "dict"]) (q : Q (.bl (isi t T)) H) : rIsi [x, .ty T] H Q := ⟨x, T, t, rfl, h, hT, q⟩
theorem tyN_tup {a : Addr} {xs : List V} (h : H a = some (.tup xs)) : tyN H (.ref a) = some "tuple" := by simp only [tyN, h]
theorem tyN_lst {a : Addr} {xs : List V} (h : H a = some (.lst xs)) : tyN H (.ref a) = some "list" := by simp only [tyN, h]
theorem rd_slice {rr : V → Option Int → Option Int → Hp → VK → Prop} {tl th : TO} (h : te σ H fun x H1 => tl σ H1 fun l H2 => th σ H2 fun u H3 => rr x l u H3 Q) : tSl rr te tl th σ H Q := h
theorem rd_nopart {R : Option Int → Hp → Prop} (h : R none H) : tNoPart σ H R := h
theorem rd_part {R : Option Int → Hp → Prop} (h : ta σ H fun x H1 => ∃ i, x = .int i ∧ R (some i) H1) : tPart ta σ H R := h
theorem rd_int {R : Int → Prop} (h : R i) : ∃ k, V.int i = V.int k ∧ R k := ⟨i, rfl, h⟩
theorem rd_bm {T : String} {rr : V → List V → Hp → VK → Prop} {ta' : TA} (h : ta σ H fun x H1 => tyV K T x H1 ∧ ta' σ H1 fun xs H2 => rr x xs H2 Q) : tBM K T rr ta ta' σ H Q := h
theorem rd_append {l : Addr} {xs : List V} (h : H l = some (.lst xs)) (hz : xs.length < sizeLine) (q : Q .non (upd H l (.lst (xs ++ [y])))) : rAppend (.ref l) [y] H Q := ⟨l, xs, y, rfl, rfl, h, hz, q⟩
theorem rd_comp {LN : List Str} {fr : List Nat} {wi : TI} (h : wi σ H fun J H1 => ∃ W : Nat → Nat → List V → St → Hp → Prop, (∃ m, W 0 m [] (bkStart LN fr σ) H1) ∧ CW J g c te W Q) : tComp LN fr wi g c te σ H Q := h
noncomputable def itK (K : PySem.W.Frag) (R : It → Hp → Prop) (x : V) (H1 : Hp) : Prop := ∃ a, x = .ref a ∧ (∃ xs, SqT K H1 a xs) ∧ R (Itt K a) H1
noncomputable def ilK (K : PySem.W.Frag) (R : It → Hp → Prop) (x : V) (H1 : Hp) : Prop := ∃ a, x = .ref a ∧ (∃ xs, SqL K H1 a xs) ∧ R (Itl K a) H1
noncomputable def irK (R : It → Hp → Prop) (vs : List V) (H1 : Hp) : Prop := ∃ j : Int, vs = [.int j] ∧ -(2 ^ 62) ≤ j ∧ j < 2 ^ 62 ∧ R (Itr 0 j.toNat) H1
theorem rd_itup {R : It → Hp → Prop} {tl : TE} (h : tl σ H (itK K R)) : iTup K tl σ H R := h
theorem rd_ilist {R : It → Hp → Prop} {tl : TE} (h : tl σ H (ilK K R)) : iList K tl σ H R := h
theorem rd_irng {R : It → Hp → Prop} {ta' : TA} (h : ta' σ H (irK R)) : iRng1 ta' σ H R := h
theorem itK_rep {R : It → Hp → Prop} {x : V} {ds : List D} (h : Rep H (.tup ds) x) (q : ∀ a xs, x = .ref a → H a = some (.tup xs) → Reps H ds xs → R (Itt K a) H) : itK K R x H := by
  obtain ⟨a, xs, rfl, ha, r⟩ := rep_tup_inv h
  exact ⟨a, rfl, ⟨xs, SqT.of ha⟩, q a xs rfl ha r⟩
theorem ilK_of {R : It → Hp → Prop} {a : Addr} {xs : List V} (h : SqL K H a xs) (q : R (Itl K a) H) : ilK K R (.ref a) H := ⟨a, rfl, ⟨xs, h⟩, q⟩
theorem irK_of {R : It → Hp → Prop} {j : Int} (h1 : -(2 ^ 62) ≤ j) (h2 : j < 2 ^ 62) (q : R (Itr 0 j.toNat) H) : irK R [.int j] H := ⟨j, rfl, h1, h2, q⟩
theorem rd_gtup {tg : TGs} {a : Addr} {xs : List V} {R : St → Hp → Prop} (h : H a = some (.tup xs)) (hl : xs.length = n) (q : tg xs σ H R) : gTup K n tg (.ref a) σ H R := ⟨a, xs, rfl, SqT.of h, hl, q⟩
theorem rd_gcons {tg : TGs} {vs : List V} {R : St → Hp → Prop} (h : g v σ H fun σ' H' => tg vs σ' H' R) : gCons g tg (v :: vs) σ H R := ⟨v, vs, rfl, h⟩
theorem rd_gnil {R : St → Hp → Prop} (h : R σ H) : gNil [] σ H R := ⟨rfl, h⟩
theorem rd_for {wi : TI} (h : wi σ H fun J H1 => ∃ W : Nat → Nat → St → Hp → Prop, (∃ m, W 0 m σ H1) ∧ ∀ i m σ H, W i m σ H →
  (J.stop i H ∧ D'.nx σ H) ∨ (J.go i H ∧ ∃ N : St → Hp → Prop, (∀ σ' H', N σ' H' → ∃ m', m' < m ∧ W (i + 1) m' σ' H') ∧ ∀ x H', J.yld i H x H' → g x σ H' fun σ2 H2 => t { D' with nx := N, ct := N, bk := D'.nx } σ2 H2)) : tFor wi g t D' σ H := h
end
end L2

end
section
set_option Elab.async false
set_option linter.all false
set_option maxRecDepth 100000
set_option maxHeartbeats 4000000
namespace L2
open PySem PySem.Spec PyProof.Rows
theorem bt_abs : bootBuiltins "abs" = some (.builtin "abs") := by decide +kernel
theorem bt_len : bootBuiltins "len" = some (.builtin "len") := by decide +kernel
theorem bt_isinstance : bootBuiltins "isinstance" = some (.builtin "isinstance") := by decide +kernel
theorem bt_all : bootBuiltins "all" = some (.builtin "all") := by decide +kernel
theorem bt_int : bootBuiltins "int" = some (.type "int") := by decide +kernel
theorem bt_bool : bootBuiltins "bool" = some (.type "bool") := by decide +kernel
theorem bt_tuple : bootBuiltins "tuple" = some (.type "tuple") := by decide +kernel
theorem bt_list : bootBuiltins "list" = some (.type "list") := by decide +kernel
theorem bt_str : bootBuiltins "str" = some (.type "str") := by decide +kernel
noncomputable def bkOk (N : List Str) (sc osc : Scope) (FN : List Str) (fr : List Nat) : Bool :=
  decide (sc.kind = .function) && sc.names.all (fun y => decide (y.2 ≠ .cell)) && sc.names.all (fun y => decide (y.2 = .local → sc.names.lookup y.1 = some .local)) &&
  sc.names.all (fun y => decide (y.2 = .free → osc.names.lookup y.1 = some .cell ∨ osc.names.lookup y.1 = some .free)) &&
  FN.all (fun x => decide (osc.names.lookup x = some .cell ∨ osc.names.lookup x = some .free)) && FN.all (fun x => decide (sc.names.lookup x = some .free)) && decide (FN.map some = fr.map fun j => N[j]?)
theorem bk_of {N : List Str} {sc osc : Scope} {LN FN : List Str} {fr : List Nat} (h : bkOk N sc osc FN fr = true) : BkScope N sc osc LN FN fr := by
  unfold bkOk at h
  simp only [Bool.and_eq_true, List.all_eq_true, decide_eq_true_eq] at h
  obtain ⟨⟨⟨⟨⟨⟨h1, h2⟩, h3⟩, h4⟩, h5⟩, h6⟩, h7⟩ := h
  exact ⟨h1, h2, h3, h4, h5, h6, h7⟩
section
variable {X : Cx}
noncomputable def rIxA (K : PySem.W.Frag) : R2 := fun x y H Q => rIxL K x y H Q ∨ rIxT K x y H Q
theorem ix_any : IxR X (rIxA X.K) := ix_list.or ix_tup
theorem rd_ixaT {K : PySem.W.Frag} {H : Hp} {p : Addr} {xs : List V} {i : Int} {v : V} {Q : VK} (h : H p = some (.tup xs)) (e : atI xs i = some v) (q : Q v H) : rIxA K (.ref p) (.int i) H Q := .inr (rd_ixT h e q)
theorem rd_ixaL {K : PySem.W.Frag} {H : Hp} {p : Addr} {xs : List V} {i : Int} {v : V} {Q : VK} (h : H p = some (.lst xs)) (e : atI xs i = some v) (q : Q v H) : rIxA K (.ref p) (.int i) H Q := .inl (rd_ixL h e q)
theorem atI_at {α : Type} {xs : List α} {i : Int} {n : Nat} {v : α} (hi : i = (n : Int)) (h : xs[n]? = some v) : atI xs i = some v := by
  subst hi
  have hl : n < xs.length := (List.getElem?_eq_some_iff.mp h).1
  unfold atI ixN
  rw [if_pos (by omega), if_pos (by omega)]
  simpa using h
/-- an item of what stands for a tuple -/
theorem rd_ixR {K : PySem.W.Frag} {H : Hp} {x : V} {ds : List D} {i : Int} {n : Nat} {d : D} {Q : VK} (h : Rep H (.tup ds) x) (hi : i = (n : Int)) (e : ds[n]? = some d) (q : ∀ v, Rep H d v → Q v H) : rIxA K x (.int i) H Q := by
  obtain ⟨a, xs, rfl, ha, r⟩ := rep_tup_inv h
  obtain ⟨v, ev, rv⟩ := r.get e
  exact rd_ixaT ha (atI_at hi ev) (q v rv)
theorem rd_ixI {K : PySem.W.Frag} {H : Hp} {x : V} {ds : List D} {i : Int} {n : Nat} {k : Int} {Q : VK} (h : Rep H (.tup ds) x) (hi : i = (n : Int)) (e : ds[n]? = some (.int k)) (q : Q (.int k) H) : rIxA K x (.int i) H Q :=
  rd_ixR h hi e fun v r => by rw [rep_int_inv r]; exact q
theorem tyN_rep {H : Hp} {x : V} {ds : List D} (h : Rep H (.tup ds) x) : tyN H x = some "tuple" := by
  obtain ⟨a, xs, rfl, ha, r⟩ := rep_tup_inv h
  exact tyN_tup ha
noncomputable def rLen (K : PySem.W.Frag) : List V → Hp → VK → Prop := fun xs H Q => ∃ x n, xs = [x] ∧ LenV K x H n ∧ Q (.int n) H
theorem call_len' : CallR X (.builtin "len") (rLen X.K) := call_len
theorem rd_lenL' {K : PySem.W.Frag} {H : Hp} {p : Addr} {ys : List V} {Q : VK} (h : SqL K H p ys) (q : Q (.int ys.length) H) : rLen K [.ref p] H Q := ⟨_, _, rfl, .inl ⟨ys, h, rfl⟩, q⟩
noncomputable def rAbs : List V → Hp → VK → Prop := fun xs H Q => ∃ i, xs = [.int i] ∧ Q (.int (if i < 0 then -i else i)) H
theorem call_abs' : CallR X (.builtin "abs") rAbs := call_abs
theorem rd_abs {H : Hp} {i : Int} {Q : VK} (q : Q (.int (if i < 0 then -i else i)) H) : rAbs [.int i] H Q := ⟨i, rfl, q⟩
noncomputable def rTupOf (K : PySem.W.Frag) : List V → Hp → VK → Prop := fun xs H Q => ∃ p ys, xs = [.ref p] ∧ ((SqL K H p ys ∧ ∀ l, H l = none → Q (.ref l) (upd H l (.tup ys))) ∨ (SqT K H p ys ∧ Q (.ref p) H))
theorem call_tup' : CallR X (.type "tuple") (rTupOf X.K) := call_tuple_of
theorem rd_tupL {K : PySem.W.Frag} {H : Hp} {p : Addr} {ys : List V} {Q : VK} (h : SqL K H p ys) (q : ∀ l, H l = none → Q (.ref l) (upd H l (.tup ys))) : rTupOf K [.ref p] H Q := ⟨p, ys, rfl, .inl ⟨h, q⟩⟩
noncomputable def rLstOf (K : PySem.W.Frag) : List V → Hp → VK → Prop := fun xs H Q => ∃ p ys, xs = [.ref p] ∧ (SqL K H p ys ∨ SqT K H p ys) ∧ ∀ l, H l = none → Q (.ref l) (upd H l (.lst ys))
theorem call_lst' : CallR X (.type "list") (rLstOf X.K) := call_list_of
theorem rd_lstOf {K : PySem.W.Frag} {H : Hp} {p : Addr} {ys : List V} {Q : VK} (h : SqL K H p ys ∨ SqT K H p ys) (q : ∀ l, H l = none → Q (.ref l) (upd H l (.lst ys))) : rLstOf K [.ref p] H Q := ⟨p, ys, rfl, h, q⟩
theorem mk_le {n : Nat} (h : Nat.ble n 1000 = true) : n ≤ sizeLine := small_le (Nat.le_of_ble_eq_true h)
end
/-! ### the same, the written part named -/
section
variable {X : Cx} {K : PySem.W.Frag} {pos : Pos}
theorem k_ix (h : X.K = K) : IxR X (rIxA K) := h ▸ ix_any
theorem k_len (h : X.K = K) : CallR X (.builtin "len") (rLen K) := h ▸ call_len'
theorem k_tupOf (h : X.K = K) : CallR X (.type "tuple") (rTupOf K) := h ▸ call_tup'
theorem k_lstOf (h : X.K = K) : CallR X (.type "list") (rLstOf K) := h ▸ call_lst'
theorem k_sl (h : X.K = K) : SlR X (rSlL K) := h ▸ sl_list
theorem k_pi_list {tg l : Expr} {tl : TE} (h : X.K = K) (hl : PE X l tl) : PI X tg l (iList K tl) := h ▸ pi_list hl
theorem k_pi_tup {tg l : Expr} {tl : TE} (h : X.K = K) (hl : PE X l tl) : PI X tg l (iTup K tl) := h ▸ pi_tup hl
theorem k_pg_tup {es : List Expr} {k : Nat} {t : TGs} {n : Nat} (h : X.K = K) (hc : X.calm = true) (hg : PGs X es t)
    (hn : (assignEach es X.env).length = n := by rfl) (hst : (assignEach es X.env).findIdx? (·.1) = none := by rfl) : PG X (.Tuple es k pos) (gTup K n t) := h ▸ pg_tup hc hg hn hst
variable {o e : Expr} {es : List Expr} {to : TE} {t : TA} {name : Str} {apos cpos : Pos} {T id : String} {r : V → List V → Hp → VK → Prop}
theorem k_bm (h : X.K = K) (pa : PlainAttrs T) (slot : Slot T name id) (hty : typeOf (.builtin id) = pure (.type "method_descriptor")) (hm : MtR X id r) (ho : PE X o to) (ha : PA X (e :: es) t)
    (hbase : attributeBase o name X.env (eval o X.env) = eval o X.env := by rfl)
    (hfew : ((backTo cpos (starEach (e :: es) X.env)).all (fun x => !x.1) && (backToKw cpos (keywordEach [] X.env)).all (fun x => x.1.isSome)
      && decide ((e :: es).length + ([] : List Keyword).length + (if ([] : List Keyword).isEmpty then 0 else 1) < 30)) = true := by rfl)
    (hline : (apos.endLine == cpos.line) = true := by rfl) (hs : starEach (e :: es) X.env = (false, eval e X.env) :: starEach es X.env := by rfl) (hplain : (backTo cpos (starEach es X.env)).any (·.1) = false := by rfl) :
    PE X (.Call (.Attribute o name apos) (e :: es) [] cpos) (tBM K T r to t) := h ▸ pe_bm pa slot hty hm ho ha hbase hfew hline hs hplain
end
end L2

end
section
set_option Elab.async false
set_option linter.all false
set_option maxRecDepth 100000
set_option maxHeartbeats 4000000
namespace L2
open PySem PySem.Spec PyProof.Rows
/-! ### defs of the text by their names, and promises by the number of arguments -/
structure TopFn (K : PySem.W.Frag) (mg : Str → Option Value) (x : Str) (st : Stmt) (ps : List Str) : Prop where
  ex : ∃ f fd, Fun K x x st f fd ∧ mg x = some (.ref f) ∧ Binds K fd ps []
section
variable {P : Program} {w : World} {K : PySem.W.Frag} {mg : Str → Option Value} {base : Heap} {x : Str} {st : Stmt} {ps N : List Str} {sp : Sp} {k : Nat}
theorem TopFn.callee (T : TopFn K mg x st ps) (h : ∀ f fd, Fun K x x st f fd → FnOk P w K mg base CX0 k f fd ps sp) : Callee P w K mg base x k ps sp := by
  obtain ⟨f, fd, F, hm, hb⟩ := T.ex
  exact ⟨f, fd, h f fd F, hm, F.kp, hb⟩
noncomputable def sp1 (b : V → Hp → VK → Prop) : Sp := fun vs H Q _ => ∃ x, vs = [x] ∧ b x H Q
noncomputable def sp2 (b : V → V → Hp → VK → Prop) : Sp := fun vs H Q _ => ∃ x y, vs = [x, y] ∧ b x y H Q
noncomputable def sp3 (b : V → V → V → Hp → VK → Prop) : Sp := fun vs H Q _ => ∃ x y z, vs = [x, y, z] ∧ b x y z H Q
noncomputable def sp4 (b : V → V → V → V → Hp → VK → Prop) : Sp := fun vs H Q _ => ∃ x y z u, vs = [x, y, z, u] ∧ b x y z u H Q
theorem use1 {b : V → Hp → VK → Prop} {x : V} {H : Hp} {Q : VK} {E : XK} (h : b x H Q) : sp1 b [x] H Q E := ⟨x, rfl, h⟩
theorem use2 {b : V → V → Hp → VK → Prop} {x y : V} {H : Hp} {Q : VK} {E : XK} (h : b x y H Q) : sp2 b [x, y] H Q E := ⟨x, y, rfl, h⟩
theorem use3 {b : V → V → V → Hp → VK → Prop} {x y z : V} {H : Hp} {Q : VK} {E : XK} (h : b x y z H Q) : sp3 b [x, y, z] H Q E := ⟨x, y, z, rfl, h⟩
theorem use4 {b : V → V → V → V → Hp → VK → Prop} {x y z u : V} {H : Hp} {Q : VK} {E : XK} (h : b x y z u H Q) : sp4 b [x, y, z, u] H Q E := ⟨x, y, z, u, rfl, h⟩
noncomputable def GoalB (P : Program) (w : World) (K : PySem.W.Frag) (mg : Str → Option Value) (base : Heap) (N : List Str) (x : Str) (st : Stmt) (f : Addr) (cdv : Value) (A : Around) (outer : List Env) (s : Shared) (H : Hp) (vs : List V) (Q : VK) (E : XK) : Prop :=
  ∃ t, PSs (cxOf CX0 P w K mg base N x (defScope st) f cdv A outer s H E).nox (defBody st) t ∧ t { nx := fun _ H' => Q .non H', rt := Q } (start N vs) H
theorem TopFn.ok1 {a1 : Str} {b : V → Hp → VK → Prop} (T : TopFn K mg x st [a1]) (S : FnScope N [a1] (defScope st))
    (h : ∀ (f : Addr) (cdv : Value) (A : Around) (outer : List Env) (s : Shared) (H : Hp) (v1 : V) (Q : VK) (E : XK), Room k (A.deeper (envOfC x (defScope st) s.heap.objs.size f cdv)) → b v1 H Q → GoalB P w K mg base N x st f cdv A outer s H [v1] Q E) : Callee P w K mg base x (k + 1) [a1] (sp1 b) :=
  T.callee fun f fd F => F.ok S (fun vs H Q E ⟨_, e, _⟩ => by rw [e]; rfl) fun cdv A outer s H vs Q E hr hsp => by
    obtain ⟨v1, rfl, hb⟩ := hsp
    exact h f cdv A outer s H v1 Q E hr hb
theorem TopFn.ok2 {a1 a2 : Str} {b : V → V → Hp → VK → Prop} (T : TopFn K mg x st [a1, a2]) (S : FnScope N [a1, a2] (defScope st))
    (h : ∀ (f : Addr) (cdv : Value) (A : Around) (outer : List Env) (s : Shared) (H : Hp) (v1 v2 : V) (Q : VK) (E : XK), Room k (A.deeper (envOfC x (defScope st) s.heap.objs.size f cdv)) → b v1 v2 H Q → GoalB P w K mg base N x st f cdv A outer s H [v1, v2] Q E) : Callee P w K mg base x (k + 1) [a1, a2] (sp2 b) :=
  T.callee fun f fd F => F.ok S (fun vs H Q E ⟨_, _, e, _⟩ => by rw [e]; rfl) fun cdv A outer s H vs Q E hr hsp => by
    obtain ⟨v1, v2, rfl, hb⟩ := hsp
    exact h f cdv A outer s H v1 v2 Q E hr hb
theorem TopFn.ok3 {a1 a2 a3 : Str} {b : V → V → V → Hp → VK → Prop} (T : TopFn K mg x st [a1, a2, a3]) (S : FnScope N [a1, a2, a3] (defScope st))
    (h : ∀ (f : Addr) (cdv : Value) (A : Around) (outer : List Env) (s : Shared) (H : Hp) (v1 v2 v3 : V) (Q : VK) (E : XK), Room k (A.deeper (envOfC x (defScope st) s.heap.objs.size f cdv)) → b v1 v2 v3 H Q → GoalB P w K mg base N x st f cdv A outer s H [v1, v2, v3] Q E) : Callee P w K mg base x (k + 1) [a1, a2, a3] (sp3 b) :=
  T.callee fun f fd F => F.ok S (fun vs H Q E ⟨_, _, _, e, _⟩ => by rw [e]; rfl) fun cdv A outer s H vs Q E hr hsp => by
    obtain ⟨v1, v2, v3, rfl, hb⟩ := hsp
    exact h f cdv A outer s H v1 v2 v3 Q E hr hb
theorem TopFn.ok4 {a1 a2 a3 a4 : Str} {b : V → V → V → V → Hp → VK → Prop} (T : TopFn K mg x st [a1, a2, a3, a4]) (S : FnScope N [a1, a2, a3, a4] (defScope st))
    (h : ∀ (f : Addr) (cdv : Value) (A : Around) (outer : List Env) (s : Shared) (H : Hp) (v1 v2 v3 v4 : V) (Q : VK) (E : XK), Room k (A.deeper (envOfC x (defScope st) s.heap.objs.size f cdv)) → b v1 v2 v3 v4 H Q → GoalB P w K mg base N x st f cdv A outer s H [v1, v2, v3, v4] Q E) : Callee P w K mg base x (k + 1) [a1, a2, a3, a4] (sp4 b) :=
  T.callee fun f fd F => F.ok S (fun vs H Q E ⟨_, _, _, _, e, _⟩ => by rw [e]; rfl) fun cdv A outer s H vs Q E hr hsp => by
    obtain ⟨v1, v2, v3, v4, rfl, hb⟩ := hsp
    exact h f cdv A outer s H v1 v2 v3 v4 Q E hr hb
theorem go_body {f : Addr} {cdv : Value} {A : Around} {outer : List Env} {s : Shared} {H : Hp} {vs : List V} {Q : VK} {E : XK} {t : TS} (σ : St) (hσ : start N vs = σ) (h : PSs (cxOf CX0 P w K mg base N x (defScope st) f cdv A outer s H E).nox (defBody st) t)
    (q : t { nx := fun _ H' => Q .non H', rt := Q } σ H) : GoalB P w K mg base N x st f cdv A outer s H vs Q E := ⟨t, h, by rw [hσ]; exact q⟩
end
end L2
namespace L2
open PySem PySem.Spec PyProof.Rows
theorem ite_no {b : Bool} {A B : Prop} (h : b = false) (q : B) : if b = true then A else B := by subst h; exact iteF q
theorem ite_yes {b : Bool} {A B : Prop} (h : b = true) (q : A) : if b = true then A else B := by subst h; exact iteT q
theorem ite_dn {c A B : Prop} [Decidable c] (h : ¬ c) (q : B) : if decide c = true then A else B := by rw [decide_eq_false h]; exact iteF q
theorem ite_dy {c A B : Prop} [Decidable c] (h : c) (q : A) : if decide c = true then A else B := by rw [decide_eq_true h]; exact iteT q
theorem ite_ny {c A B : Prop} [Decidable c] (h : ¬ c) (q : A) : if (!decide c) = true then A else B := by rw [decide_eq_false h]; exact iteT q
theorem ite_dd {c A B : Prop} [Decidable c] (h : c → A) (q : ¬ c → B) : if decide c = true then A else B := by
  by_cases e : c
  · exact ite_dy e (h e)
  · exact ite_dn e (q e)
theorem ite_nd {c A B : Prop} [Decidable c] (h : ¬ c → A) (q : c → B) : if (!decide c) = true then A else B := by
  by_cases e : c
  · exact iteNS e (q e)
  · exact ite_ny e (h e)
/-- a form as data -/
noncomputable def pairD (p : Int × Int) : D := .tup [.int p.1, .int p.2]
noncomputable def formD (c : Int) (ps : List (Int × Int)) : D := .tup [.int c, .tup (ps.map pairD)]
end L2
namespace L2
theorem small_le' {n : Nat} (h : n ≤ 1000000) : n ≤ PySem.sizeLine := Nat.le_trans h (by rw [PySem.sizeLine_eq]; decide)
end L2
namespace L2
theorem iteNT {A B : Prop} (h : B) : if (!true) = true then A else B := iteF h
theorem iteNF {A B : Prop} (h : A) : if (!false) = true then A else B := iteT h
end L2
namespace L2
open PySem
theorem cutV_ints (ns : List Int) (lo hi : Option Int) : ∃ ms : List Int, cutV (ns.map V.int) lo hi = ms.map V.int ∧ ms.length ≤ ns.length := by
  refine ⟨(ns.drop (HT.sIx (ns.map V.int).length 0 lo)).take (HT.sIx (ns.map V.int).length (ns.map V.int).length hi - HT.sIx (ns.map V.int).length 0 lo), ?_, ?_⟩
  · unfold cutV
    rw [List.map_take, List.map_drop]
  · rw [List.length_take, List.length_drop]
    omega
theorem rd_slL {K : PySem.W.Frag} {H : Hp} {a : Addr} {xs : List V} {lo hi : Option Int} {Q : VK} (h : SqL K H a xs) (q : ∀ p, H p = none → Q (.ref p) (upd H p (.lst (cutV xs lo hi)))) : rSlL K (.ref a) lo hi H Q := ⟨a, xs, rfl, h, q⟩
theorem rd_cat {H : Hp} {l b : Addr} {xs zs : List V} {Q : VK} (h1 : H l = some (.lst xs)) (h2 : H b = some (.lst zs)) (hl : xs.length + zs.length ≤ sizeLine) (q : ∀ p, H p = none → Q (.ref p) (upd H p (.lst (xs ++ zs)))) : rCat (.ref l) (.ref b) H Q := ⟨l, b, xs, zs, rfl, rfl, h1, h2, hl, q⟩
theorem ints_get {ns : List Int} {i : Nat} {x : V} (h : (ns.map V.int)[i]? = some x) : ∃ z, x = .int z ∧ ns[i]? = some z := by
  rw [List.getElem?_map] at h
  obtain ⟨z, e, rfl⟩ := Option.map_eq_some_iff.mp h
  exact ⟨z, rfl, e⟩
theorem upd_old {H : Hp} {a b : Addr} {o u : HO} (h : H b = some u) (hn : H a = none) : upd H a o b = some u := by rw [upd_ne (ne_of_none h hn)]; exact h
noncomputable def spLaw (K : PySem.W.Frag) : Sp := sp1 fun x H Q => ∃ (a : Addr) (ns : List Int), x = .ref a ∧ SqL K H a (ns.map V.int) ∧ ns.length ≤ 63 ∧ ∀ H', Q (.bl true) H'
theorem spLaw_of {K : PySem.W.Frag} {H : Hp} {a : Addr} {ns : List Int} {E : XK} (hl : ns.length ≤ 63) (hS : SqL K H a (ns.map V.int)) : spLaw K [.ref a] H (fun v _ => v = .bl true) E := ⟨_, rfl, a, ns, rfl, hS, hl, fun _ => rfl⟩
theorem Fun.law {P : Program} {w : World} {K : PySem.W.Frag} {mg : Str → Option Value} {base : Heap} {st : Stmt} {f : Addr} {fd : FuncData} {N : List Str} {k : Nat} (F : Fun K "law" "law" st f fd) (S : FnScope N ["script"] (defScope st))
    (h : ∀ (cdv : Value) (A : Around) (outer : List Env) (s : Shared) (H : Hp) (a : Addr) (ns : List Int) (Q : VK) (E : XK), Room k (A.deeper (PyProof.Rows.envOfC "law" (defScope st) s.heap.objs.size f cdv)) → SqL K H a (ns.map V.int) → ns.length ≤ 63 → (∀ H', Q (.bl true) H') →
      GoalB P w K mg base N "law" st f cdv A outer s H [.ref a] Q E) : FnOk P w K mg base CX0 (k + 1) f fd ["script"] (spLaw K) :=
  F.ok S (fun vs H Q E ⟨_, e, _⟩ => by rw [e]; rfl) fun cdv A outer s H vs Q E hr hsp => by
    obtain ⟨_, rfl, a, ns, rfl, h1, h2, h3⟩ := hsp
    exact h cdv A outer s H a ns Q E hr h1 h2 h3
end L2
namespace L2
theorem ten60 : (10 : Int) ^ (60 : Int).toNat = 1000000000000000000000000000000000000000000000000000000000000 := by decide +kernel
theorem cpow60 : CPow 10 60 := ⟨by decide, by decide, by decide⟩
theorem big_of {x : Int} (h : x.natAbs ≤ 10 ^ 70) : x.natAbs < 2 ^ 8000 := Nat.lt_of_le_of_lt h (by decide +kernel)
theorem cbig_of {x y : Int} (h : x.natAbs ≤ 10 ^ 70) (h2 : y.natAbs ≤ 10 ^ 70) : CBig x y := ⟨big_of h, big_of h2⟩
theorem cdivb_of {x y : Int} (h : 0 < y) (h2 : y.natAbs ≤ 10 ^ 70) : CDivB x y := ⟨h, big_of h2⟩
end L2

end
section
set_option Elab.async false
set_option linter.all false
set_option maxRecDepth 100000
set_option maxHeartbeats 4000000
namespace L2
open PySem
/-! ### the law's bag of numbers -/
noncomputable def bagL (l : Addr) (i m st c : Int) : List V := [.ref l, .int i, .int m, .int st, .int c]
structure BagAt (H : Hp) (b l : Addr) : Prop where
  ex : ∃ (xs : List Int) (i : Nat) (m st c : Int), H b = some (.lst (bagL l i m st c)) ∧ H l = some (.lst (xs.map V.int)) ∧ i ≤ xs.length ∧ (0 ≤ m ∧ m ≤ 10 ^ 60) ∧ (0 ≤ st ∧ st < 2147483647) ∧ (∀ x ∈ xs, 0 ≤ x ∧ x ≤ 10 ^ 60) ∧ xs.length ≤ 63
/-- all but b stays -/
noncomputable def BSame (b : Addr) (H H' : Hp) : Prop := ∀ a o, a ≠ b → H a = some o → H' a = some o
theorem BSame.refl (b : Addr) (H : Hp) : BSame b H H := fun _ _ _ h => h
theorem BSame.trans {b : Addr} {H H1 H2 : Hp} (x : BSame b H H1) (y : BSame b H1 H2) : BSame b H H2 := fun a o n h => y a o n (x a o n h)
theorem BSame.of {b : Addr} {H H' : Hp} (s : Same H H') : BSame b H H' := fun a o _ h => s a o h
theorem BSame.wr {b : Addr} {H : Hp} {o : HO} : BSame b H (upd H b o) := fun a u n h => by rw [upd_ne n]; exact h
theorem BagAt.lst {H : Hp} {b l : Addr} (B : BagAt H b l) : ∃ xs, H b = some (.lst xs) := let ⟨_, _, _, _, _, h, _⟩ := B.ex; ⟨_, h⟩
/-- tuples are none of the bag's -/
theorem BSame.ts {b l : Addr} {H H' : Hp} (x : BSame b H H') (B : BagAt H b l) : TSame H H' := fun a xs e => by
  obtain ⟨ys, hb⟩ := B.lst
  refine x a _ (fun z => ?_) e
  subst z
  rw [hb] at e
  cases e
theorem BagAt.mono {H H' : Hp} {b l : Addr} (B : BagAt H b l) (s : Same H H') : BagAt H' b l := by
  obtain ⟨xs, i, m, st, c, h1, h2, r⟩ := B.ex
  exact ⟨xs, i, m, st, c, s _ _ h1, s _ _ h2, r⟩
/-- another object is written -/
theorem BagAt.wr {H : Hp} {b l q : Addr} {o : HO} (B : BagAt H b l) (h1 : b ≠ q) (h2 : l ≠ q) : BagAt (upd H q o) b l := by
  obtain ⟨xs, i, m, st, c, e1, e2, r⟩ := B.ex
  exact ⟨xs, i, m, st, c, by rw [upd_ne h1]; exact e1, by rw [upd_ne h2]; exact e2, r⟩
theorem BagAt.ne {H : Hp} {b l q : Addr} (B : BagAt H b l) (h : H q = none) : b ≠ q ∧ l ≠ q := by
  obtain ⟨xs, i, m, st, c, e1, e2, r⟩ := B.ex
  exact ⟨ne_of_none e1 h, ne_of_none e2 h⟩
theorem BSame.wrNew {b q : Addr} {H H1 : Hp} {o : HO} (x : BSame b H H1) (h : H q = none) : BSame b H (upd H1 q o) := fun a u n e => by
  rw [upd_ne (ne_of_none e h)]
  exact x a u n e
theorem BSame.free {b q : Addr} {H H1 : Hp} (x : BSame b H H1) (n : q ≠ b) (h : H1 q = none) : H q = none := by
  cases e : H q with
  | none => rfl
  | some o =>
    rw [x q o n e] at h
    cases h
theorem BSame.to {b : Addr} {H H1 H2 : Hp} (x : BSame b H H1) (y : Same H1 H2) : BSame b H H2 := x.trans (BSame.of y)
/-- one draw: what it asks and what it gives -/
noncomputable def drawB (x y : V) (H : Hp) (Q : VK) : Prop := ∃ b l n, x = .ref b ∧ y = .int n ∧ (0 < n ∧ n ≤ 10 ^ 65) ∧ BagAt H b l ∧ ∀ r H', 0 ≤ r → r < n → BagAt H' b l → BSame b H H' → Q (.int r) H'
noncomputable def sp_draw : Sp := sp2 drawB
noncomputable def sp_number : Sp := sp1 fun x H Q => ∃ b l, x = .ref b ∧ BagAt H b l ∧ ∀ r H', r.natAbs ≤ 10 ^ 60 → BagAt H' b l → BSame b H H' → Q (.int r) H'
noncomputable def sp_bag (K : PySem.W.Frag) : Sp := sp1 fun x H Q => ∃ (a : Addr) (ns : List Int), x = .ref a ∧ SqL K H a (ns.map V.int) ∧ ns.length ≤ 63 ∧ ∀ b l H', H b = none → Same H H' → BagAt H' b l → Q (.ref b) H'
end L2

end
section
set_option Elab.async false
set_option linter.all false
set_option maxRecDepth 100000
set_option maxHeartbeats 4000000
namespace L3
open PySem PyProof.Rows
/-! ### timsort over any keys that are ordered by a number -/
class KOrd where
  kd : SortKind
  good : Keyed → Prop
  kv : Keyed → Int
noncomputable abbrev oneType' [KOrd] : SortKind := KOrd.kd
noncomputable def IntK [KOrd] (x : Keyed) : Prop := KOrd.good x
noncomputable def kvl [KOrd] (x : Keyed) : Int := KOrd.kv x
noncomputable def K [KOrd] (xs : Array Keyed) (i : Nat) : Int := match xs[i]? with
  | some q => kvl q
  | none => 0
class KLt [KOrd] (P : Program) (W : World) (A : Around) (E : Value → Shared → Prop) (z : Shared) : Prop where
  lt : ∀ {u : SortSt} {x y : Keyed} {Q : Option Bool → SortSt → Prop}, kindOf u = oneType' → IntK x → IntK y → Q (some (decide (kvl x < kvl y))) u → wpS (model P W) A E z (lt' x y) Q u
section
variable [KOrd]
end
/-! ### the search by doubling steps -/
section
variable [KOrd] {P : Program} {W : World} {A : Around} {E : Value → Shared → Prop} {z : Shared} [KLt P W A E z]
end
end L3

end
section
set_option Elab.async false
set_option linter.all false
set_option maxRecDepth 100000
set_option maxHeartbeats 4000000
namespace L3
open PySem PyProof.Rows
variable [KOrd]
/-! ### two rising lists laid together -/
section
variable {a b out : List Keyed} {ia ib : Nat}
end
section
variable {P : Program} {W : World} {A : Around} {E : Value → Shared → Prop} {z : Shared} [KLt P W A E z]
/-- what a merge leaves as it is -/
structure Fr (u v : SortSt) : Prop where
  kind : kindOf v = kindOf u
  arr : arrOf v = arrOf u
  pend : pendingOf v = pendingOf u
  failed : failedOf v = failedOf u
end

/-! ### arrays as lists -/
/-! ### the merge from the low end -/
section
variable {a b out : Array Keyed} {ia ib : Nat}
end
section
variable {P : Program} {W : World} {A : Around} {E : Value → Shared → Prop} {z : Shared} [KLt P W A E z]
end
end L3

end
section
set_option Elab.async false
set_option linter.all false
set_option maxRecDepth 100000
set_option maxHeartbeats 4000000
namespace L3
open PySem PyProof.Rows
variable [KOrd]
/-! ### the merge from the high end -/
section
variable {a b out : List Keyed} {na nb : Nat}
end
section
variable {a b out : Array Keyed} {na nb : Nat}
end
section
variable {P : Program} {W : World} {A : Around} {E : Value → Shared → Prop} {z : Shared} [KLt P W A E z]
end
end L3

end
section
set_option Elab.async false
set_option linter.all false
set_option maxRecDepth 100000
set_option maxHeartbeats 4000000
namespace L3
open PySem PyProof.Rows
variable [KOrd]
/-! ### runs laid together in the array -/
section
variable {P : Program} {W : World} {A : Around} {E : Value → Shared → Prop} {z : Shared} [KLt P W A E z]
end
end L3

end
section
set_option Elab.async false
set_option linter.all false
set_option maxRecDepth 100000
set_option maxHeartbeats 4000000
namespace L3
open PySem PyProof.Rows
variable [KOrd]
/-! ### runs found and lengthened, wherever they begin -/
section
variable {P : Program} {W : World} {A : Around} {E : Value → Shared → Prop} {z : Shared} [KLt P W A E z] {a₀ : Array Keyed} {p : Array (Nat × Nat × Nat)}
end
end L3

end
section
set_option Elab.async false
set_option linter.all false
set_option maxRecDepth 100000
set_option maxHeartbeats 4000000
namespace L3
open PySem PyProof.Rows
variable [KOrd]
section
variable {P : Program} {W : World} {A : Around} {E : Value → Shared → Prop} {z : Shared} [KLt P W A E z] {a₀ : Array Keyed} {p : Array (Nat × Nat × Nat)}
end
/-! ### the stack of runs -/
end L3

end
section
set_option Elab.async false
set_option linter.all false
set_option maxRecDepth 100000
set_option maxHeartbeats 4000000
namespace L3
open PySem PyProof.Rows
variable [KOrd]
section
variable {u v : SortSt} {sa n : Nat}
end
section
variable {P : Program} {W : World} {A : Around} {E : Value → Shared → Prop} {z : Shared} [KLt P W A E z] {a₀ : Array Keyed}
end
end L3

end
section
set_option Elab.async false
set_option linter.all false
set_option maxRecDepth 100000
set_option maxHeartbeats 4000000
namespace L2
open PySem PySem.Spec PyProof.Rows
/-! ### list.sort of ints, by what its runs do -/
section
variable {P : Program} {W : World} {A : Around} {E : Value → Shared → Prop} {z : Shared}
end
/-! ### sorted(d), d a dict whose keys are ints -/
end L2
namespace L2
open PySem
/-! ### the numbers by words: a dict of ints -/
end L2
namespace L2
open PySem
end L2
namespace L2
open PySem
end L2

end
section
set_option Elab.async false
set_option linter.all false
set_option maxRecDepth 100000
set_option maxHeartbeats 4000000
namespace L3
open PySem
/-! ### the places of a set's table rise -/
noncomputable def Up (xs : Array Nat) : Prop := ∀ (i j x y : Nat), i < j → xs[i]? = some x → xs[j]? = some y → x < y
/-- a table as it is made by adding alone -/
structure Tab (t : SetTable) : Prop where
  up : Up t.place
  nod : t.dummies = #[]
/-! ### any order of a list -/
end L3

end
section
set_option Elab.async false
set_option linter.all false
set_option maxRecDepth 100000
set_option maxHeartbeats 4000000
namespace L3
open PySem PyProof.Rows
/-! ### a set of ints, its table known -/
structure SB (P : Program) (w : World) (h : Heap) (a : Addr) (S : Int → Bool) (led : Bool) (o : Obj) (es : Array (Int × Value)) (ep : Nat) (t : SetTable) : Prop where
  here : h.get? a = some o
  ex : o.ExactSet
  dat : o.data = .set es ep t
  el : ElemsOf (intKind P w) es.toList
  mem : ∀ k, S k = true ↔ ∃ e ∈ es.toList, (intKind P w).is k e.2 = true
  few : es.size < scanBound
  fit : t.fits es.size = true
  tab : Tab t
  led : t.led = led
section
variable {P : Program} {w : World} {A : Around} {E : Value → Shared → Prop} {s : Shared}
end
section
variable {P : Program} {w : World} {A : Around} {R : Result → Shared → Prop} {I : Addr} {fp wr : List Addr} {G : Array GenState → Array GenState → Prop} {n : Nat} {Pv : Nat → Value → Prop} {St : Nat → Shared → Prop}
end
section
variable {P : Program} {w : World} {A : Around} {E : Value → Shared → Prop} {s : Shared}
end
end L3

end
section
set_option Elab.async false
set_option linter.all false
set_option maxRecDepth 100000
set_option maxHeartbeats 4000000
namespace L3
open PySem
section
variable {M : Model} {A : Around} {E : Value → Shared → Prop} {s : Shared}
end
end L3

end
section
set_option Elab.async false
set_option linter.all false
set_option maxRecDepth 100000
set_option maxHeartbeats 4000000
namespace L3
open PySem
section
variable {P : Program} {w : World} {A : Around} {E : Value → Shared → Prop} {s : Shared} {it a : Addr} {S : Int → Bool} {led : Bool} {o : Obj} {es : Array (Int × Value)} {ep : Nat} {t : SetTable}
/-! ### what setNext tells -/
/-! ### walks over the set, in whatever order -/
end
end L3

end
section
set_option Elab.async false
set_option linter.all false
set_option maxRecDepth 100000
set_option maxHeartbeats 4000000
namespace L3
open PySem PyProof.Rows
section
variable {P : Program} {w : World} {A : Around} {E : Value → Shared → Prop} {s : Shared}
/-! ### the things of a list, each once -/
noncomputable def dd (ns : List Int) : List Int := firstMet (fun i => ns.getD i 0) ns.length
end
end L3

end
section
set_option Elab.async false
set_option linter.all false
set_option maxRecDepth 100000
set_option maxHeartbeats 4000000
namespace L2
open PySem PySem.Spec PyProof.Rows
/-! ### is None -/
noncomputable def rIsN : R2 := fun x y H Q => y = .non ∧ Q (.bl (decide (x = .non))) H
theorem op_isN' {X : Cx} : OpR X (compareOp .Is) rIsN := op_isN
theorem rd_isN {x : V} {H : Hp} {Q : VK} (q : Q (.bl (decide (x = .non))) H) : rIsN x .non H Q := ⟨rfl, q⟩
/-! ### parts of a list -/
theorem sIx_nat (n d k : Nat) : HT.sIx n d (some (k : Int)) = min k n := by
  simp only [HT.sIx]
  rw [if_neg (by omega)]
  simp
theorem cut_to {xs : List V} {k : Nat} (h : k ≤ xs.length) : cutV xs none (some (k : Int)) = xs.take k := by
  unfold cutV
  have e1 : HT.sIx xs.length 0 none = 0 := rfl
  have e2 : HT.sIx xs.length xs.length (some (k : Int)) = k := by
    rw [sIx_nat]
    omega
  rw [e1, e2]
  simp
theorem cut_from {xs : List V} {k : Nat} (h : k ≤ xs.length) : cutV xs (some (k : Int)) none = xs.drop k := by
  unfold cutV
  have e1 : HT.sIx xs.length 0 (some (k : Int)) = k := by
    rw [sIx_nat]
    omega
  have e2 : HT.sIx xs.length xs.length none = xs.length := rfl
  rw [e1, e2]
  simp [List.take_of_length_le]
theorem cut_mid {xs : List V} {k m : Nat} (h : k ≤ xs.length) (hm : k ≤ m) : cutV xs (some (k : Int)) (some (m : Int)) = (xs.drop k).take (m - k) := by
  unfold cutV
  have e1 : HT.sIx xs.length 0 (some (k : Int)) = k := by
    rw [sIx_nat]
    omega
  have e2 : HT.sIx xs.length xs.length (some (m : Int)) = min m xs.length := sIx_nat _ _ _
  rw [e1, e2]
  by_cases q : m ≤ xs.length
  · rw [Nat.min_eq_left q]
  · rw [Nat.min_eq_right (by omega), List.take_of_length_le (by simp), List.take_of_length_le (by simp; omega)]
/-! ### xs[::-1] -/
section
variable {X : Cx}
end
/-! ### set(list of ints), sorted(set) -/
section
variable {X : Cx}
end
/-! ### lists that are rising -/
end L2

end
section
set_option Elab.async false
set_option linter.all false
set_option maxRecDepth 100000
set_option maxHeartbeats 4000000
namespace L2
open PySem PySem.Spec PyProof.Rows
/-! ### for over the signs of a text -/
noncomputable def Its (x : Str) : It := ⟨fun i _ => i < x.cps.size, fun i H v H' => H' = H ∧ ∃ c, x.cps[i]? = some c ∧ v = .str ⟨#[c]⟩, fun i _ => x.cps.size ≤ i⟩
theorem turn_str {P : Program} {w : World} {K : PySem.W.Frag} {tg : Expr} (x : Str) (t : Tok) (it : Addr) : Turn P w K tg (Its x) [it] it (fun i h => h.IsStrIter it "str_ascii_iterator" x t i) where
  mem := by simp
  obj := fun i h st b hb => by
    have e : b = it := by simpa using hb
    subst e
    obtain ⟨o, e, c, d⟩ := st
    exact ⟨o, e, fun v z => by rw [d] at z; cases z⟩
  keep := fun i h h' st k => by
    obtain ⟨o, e, c, d⟩ := st
    exact ⟨o, k it (by simp) o e, c, d⟩
  item := by
    intro X hP hw hK hc i pins s σ H E I hf st hg
    subst hP hw hK
    have hg : i < x.cps.size := hg
    obtain ⟨f0, f1, f2, f3, f4, f5⟩ := hf it (by simp)
    have hx : x.cps[i]? = some x.cps[i] := Array.getElem?_eq_getElem hg
    refine wpAny_pyNext_ascii_item st hx fun h' st' sb => ?_
    have I1 : Inv X pins σ H { s with heap := h', toks := s.toks + 1 } := I.turned (t' := s.toks + 1) (fun b o hb e => (sb.2 b hb).trans e) f0 f1 f3 f4 f5
    obtain ⟨o, e, c, d⟩ := id st'
    exact ⟨_, rfl, go_of (s := { s with heap := h', toks := s.toks + 1 }) e c d (by decide) ⟨.str ⟨#[x.cps[i]]⟩, H, I1, ⟨_, rfl⟩, ⟨rfl, _, hx, rfl⟩, st', fun b hb => (hf b hb).1⟩⟩
  done := by
    intro X hP hw hK hc i pins s σ H E I hf st hg
    subst hP hw hK
    have hg : x.cps.size ≤ i := hg
    obtain ⟨f0, f1, f2, f3, f4, f5⟩ := hf it (by simp)
    exact wpAny_pyNext_ascii_end (I.ok.hd hc) st (Array.getElem?_eq_none hg) fun h' eb => ⟨rfl, I.turned (t' := s.toks) (fun b o hb e => eb b o hb e) f0 f1 f3 f4 f5⟩
  self := fun _ _ _ _ _ st h => wpAny_pyIter_striter_ascii st h
section
variable {X : Cx} {tg : Expr}
noncomputable def iStr (tl : TE) : TI := fun σ H R => tl σ H fun x H1 => ∃ z, x = .str z ∧ z.cps.all (· < 128) = true ∧ R (Its z) H1
theorem pi_str {l : Expr} {tl : TE} (hl : PE X l tl) : PI X tg l (iStr tl) := by
  intro pins s σ H R I h
  refine thn (hl pins s σ H _ I h) fun v s1 ⟨x, H1, I1, r1, q1⟩ => ?_
  obtain ⟨z, e, ha, q⟩ := q1
  subst e
  obtain ⟨t, rfl⟩ := r1
  refine wpAny_pyIter_ascii ha ?_
  refine ⟨s1.heap.objs.size, [s1.heap.objs.size], _, _, H1, rfl, I1.kept (t' := s1.toks) fun b o e => Heap.get?_push_of_some _ e, turn_str z t _, ⟨_, Heap.get?_push_size _ rfl, rfl, rfl⟩, fun b hb => ?_, q⟩
  have e : b = s1.heap.objs.size := by simpa using hb
  subst e
  exact I1.fpOk (Nat.le_refl _) (I1.hok.fresh (Nat.le_refl _))
end
theorem rd_istr {σ : St} {H : Hp} {R : It → Hp → Prop} {tl : TE} (h : tl σ H fun x H1 => ∃ z, x = .str z ∧ z.cps.all (· < 128) = true ∧ R (Its z) H1) : iStr tl σ H R := h
theorem cw_str {z : Str} {g : TG} {tt : TT} {te : TE} {Q : VK} {σ : St} {H : Hp} (hz : z.cps.size ≤ sizeLine) (Pv : Nat → List V → St → Hp → Prop) (h0 : Pv 0 [] σ H)
    (hs : ∀ i c ys σ H, z.cps[i]? = some c → ys.length ≤ i → ys.length < sizeLine → Pv i ys σ H → g (.str ⟨#[c]⟩) σ H fun σ2 H3 => tt σ2 H3 fun ok H4 => if ok = true then te σ2 H4 fun y H5 => ys.length < sizeLine ∧ CN Pv i (ys ++ [y]) σ2 H5 else CN Pv i ys σ2 H4)
    (hd : ∀ ys σ H, ys.length ≤ z.cps.size → Pv z.cps.size ys σ H → ∀ p, H p = none → Q (.ref p) (upd H p (.lst ys))) :
    ∃ W : Nat → Nat → List V → St → Hp → Prop, (∃ m, W 0 m [] σ H) ∧ CW (Its z) g tt te W Q := by
  refine cw_of z.cps.size hz Pv h0 (fun i ys σ H hi p => hi) (fun ys σ H p => Nat.le_refl _) (fun i x ys σ H H2 hi h1 h2 p y => ?_) hd
  obtain ⟨rfl, c, hc, rfl⟩ := y
  exact hs i c ys σ _ hc h1 h2 p
end L2

end
section
set_option Elab.async false
set_option linter.all false
set_option maxRecDepth 100000
set_option maxHeartbeats 4000000
namespace L2
open PySem PySem.Spec PyProof.Rows
/-! ### list(d): the keys of a dict, in their order -/
end L2

end
section
set_option Elab.async false
set_option linter.all false
set_option maxRecDepth 100000
set_option maxHeartbeats 4000000
namespace L2
open PySem PySem.Spec PyProof.Rows
theorem k_pi_str {X : Cx} {K : PySem.W.Frag} {tg l : Expr} {tl : TE} (h : X.K = K) (hl : PE X l tl) : PI X tg l (iStr tl) := pi_str hl
/-! ### rows of a program, as data -/
noncomputable def rowD (r : Str × List D) : D := .tup (.str r.1 :: r.2)
/-! ### a program in the heap: a list of tuples, each with a list of rows -/
theorem rd_meet {c : TT} {t u t2 : TS} {D' : Ends} {σ : St} {H : Hp} (I : St → Hp → Prop) (hI : ∀ σ' H', I σ' H' → t2 D' σ' H') (h : ∀ N : St → Hp → Prop, (∀ σ' H', I σ' H' → N σ' H') → tIfS c t u { D' with nx := N } σ H) : tSeq (tIfS c t u) t2 D' σ H :=
  h (t2 D') hI
end L2

end
section
set_option Elab.async false
set_option linter.all false
set_option maxRecDepth 100000
set_option maxHeartbeats 4000000
namespace L2
open PySem PySem.Spec PyProof.Rows
/-! ### methods and classes of the text -/
section
variable {X : Cx} {C : Addr} {x m : Str} {k : Nat} {ps : List Str} {sp : Sp} {o e : Expr} {es : List Expr} {ta : TE} {t : TA} {apos pos p : Pos}
theorem pe_cint {n : Int} (hg : Gl X x) (h : ∃ t, X.mg x = some (.int n t)) (hd : (x == ("__debug__" : Str)) = false := by decide) : PE X (.Name x pos) (tC (.int n)) := by
  obtain ⟨t, h⟩ := h
  exact pe_glob hg h ⟨t, rfl⟩ hd
end
section
variable {P : Program} {w : World} {K : PySem.W.Frag} {mg : Str → Option Value} {base : Heap} {x m qual : Str} {st : Stmt} {ps N : List Str} {sp : Sp} {k : Nat} {C : Addr}
end
/-! ### readings -/
section
variable {σ : St} {H : Hp} {Q : VK} {K : PySem.W.Frag} {ta tv : TE} {f m : Str} {C a dx : Addr} {fs : List (Str × V)} {v : V}
end
end L2

end
section
set_option Elab.async false
set_option linter.all false
set_option maxRecDepth 100000
set_option maxHeartbeats 4000000
namespace L2
open PySem PySem.Spec PyProof.Rows
/-! ### a dict of the text's own: words, and for each a tuple of texts -/
noncomputable def CTup (K : PySem.W.Frag) (a : Addr) (xs : List V) : Prop := ∃ (o : Obj) (its : Array Value) (n : Nat), K.lookup a = some o ∧ o.cls = .type "tuple" ∧ o.data = .seq its n ∧ its.size ≤ sizeLine ∧ Vals xs its.toList
theorem CTup.sq {K : PySem.W.Frag} {a : Addr} {xs : List V} (h : CTup K a xs) (H : Hp) : SqT K H a xs := .inr h
noncomputable def entC (w : World) (q : Str × Tok × Addr) : DictEntry := ⟨hashStr w q.1, .str q.1 q.2.1, .ref q.2.2⟩
noncomputable def CDat (K : PySem.W.Frag) (w : World) (a : Addr) (tb : List (Str × List Str)) : Prop :=
  (a == sysModules) = false ∧ (tb.map (·.1)).Nodup ∧ ∃ (rows : List (Str × Tok × Addr)) (ep : Nat), K.lookup a = some { cls := .type "dict", data := .dict (rows.map (entC w)).toArray ep } ∧
    Paired (fun (p : Str × List Str) (q : Str × Tok × Addr) => p.1 = q.1 ∧ CTup K q.2.2 (p.2.map V.str)) tb rows
theorem cd_find {K : PySem.W.Frag} {tb : List (Str × List Str)} {rows : List (Str × Tok × Addr)} (h : Paired (fun (p : Str × List Str) (q : Str × Tok × Addr) => p.1 = q.1 ∧ CTup K q.2.2 (p.2.map V.str)) tb rows) (x : Str) :
    (tb.lookup x = none ∧ valueAt (rows.map fun q => ((Sum.inr q.1 : Key), Value.ref q.2.2)) (Sum.inr x) = none) ∨ ∃ ks a, tb.lookup x = some ks ∧ CTup K a (ks.map V.str) ∧ valueAt (rows.map fun q => ((Sum.inr q.1 : Key), Value.ref q.2.2)) (Sum.inr x) = some (.ref a) := by
  induction h with
  | nil => exact .inl ⟨rfl, rfl⟩
  | @cons p q ps qs hq t ih =>
    obtain ⟨p1, p2⟩ := p
    obtain ⟨q1, qt, qa⟩ := q
    obtain ⟨e, c⟩ := hq
    dsimp only at e c
    subst e
    by_cases z : x = p1
    · subst z
      refine .inr ⟨p2, qa, by simp [List.lookup], c, ?_⟩
      simp [valueAt]
    · have z1 : (x == p1) = false := by simpa using z
      have z2 : ¬ p1 = x := fun w => z w.symm
      have e1 : List.lookup x ((p1, p2) :: ps) = List.lookup x ps := by simp [List.lookup, z1]
      have e2 : valueAt (((p1, qt, qa) :: qs).map fun q => ((Sum.inr q.1 : Key), Value.ref q.2.2)) (Sum.inr x) = valueAt (qs.map fun q => ((Sum.inr q.1 : Key), Value.ref q.2.2)) (Sum.inr x) := by
        simp [valueAt, z2]
      rw [e1, e2]
      exact ih
theorem cd_pairs {P : Program} {w : World} : ∀ (rows : List (Str × Tok × Addr)), Pairs (mixKind P w) (rows.map (entC w)) (rows.map fun q => ((Sum.inr q.1 : Key), Value.ref q.2.2))
  | [] => .nil
  | q :: rows => by
    rw [List.map_cons, List.map_cons]
    exact .cons (mixKind_str P w q.1 q.2.1) rfl (cd_pairs rows)
theorem CDat.dict {P : Program} {w : World} {K : PySem.W.Frag} {h : Heap} {a : Addr} {tb : List (Str × List Str)} (c : CDat K w a tb) (hk : K.In h) : ∃ vs, h.DictOf (mixKind P w) a vs ∧
    ∀ x, (tb.lookup x = none ∧ valueAt vs (Sum.inr x) = none) ∨ ∃ ks b, tb.lookup x = some ks ∧ CTup K b (ks.map V.str) ∧ valueAt vs (Sum.inr x) = some (.ref b) := by
  obtain ⟨hs, nd, rows, ep, hl, pr⟩ := c
  refine ⟨rows.map fun q => ((Sum.inr q.1 : Key), Value.ref q.2.2), ⟨_, _, ep, hk a _ hl, ⟨rfl, rfl, rfl⟩, rfl, ?_, by simpa using cd_pairs rows, ?_⟩, cd_find pr⟩
  · intro e he
    have he : e ∈ rows.map (entC w) := by simpa using he
    obtain ⟨q, hq, rfl⟩ := List.mem_map.mp he
    exact ⟨.inr q.1, mixKind_str P w q.1 q.2.1, rfl⟩
  · have e : rows.map (·.1) = tb.map (·.1) := by
      clear hl nd
      induction pr with
      | nil => rfl
      | cons hq t ih => rw [List.map_cons, List.map_cons, ih, hq.1]
    rw [List.map_map]
    have : (rows.map (·.1)).Nodup := e ▸ nd
    have e2 : rows.map ((fun x : Key × Value => x.1) ∘ fun q : Str × Tok × Addr => ((Sum.inr q.1 : Key), Value.ref q.2.2)) = (rows.map (·.1)).map Sum.inr := by rw [List.map_map]; rfl
    rw [e2]
    exact List.Pairwise.map _ (fun a b z z' => z (Sum.inr.inj z')) this
noncomputable def rNotCD (K : PySem.W.Frag) (w : World) (tb : List (Str × List Str)) : R2 := fun x y H Q => ∃ a k, x = .str k ∧ y = .ref a ∧ CDat K w a tb ∧ Q (.bl (!(tb.lookup k).isSome)) H
section
variable {X : Cx} {o i e value : Expr} {pos pos' tpos : Pos} {td ty tv : TE} {x : Str} {K : PySem.W.Frag} {w : World} {tb : List (Str × List Str)}
theorem op_notCD (hK : X.K = K) (hw : X.w = w) : OpR X (compareOp .NotIn) (rNotCD K w tb) := by
  subst hK; subst hw
  intro pins s σ H x y v u Q I rx ry h
  obtain ⟨a, k, rfl, rfl, c, q⟩ := h
  obtain rfl : u = Value.ref a := ry
  obtain ⟨vs, dd, hf⟩ := c.dict (P := X.prog) I.kIn
  refine wpAny_notIn_of (kV_is (k := Sum.inr k) rx) c.1 dd.mapOf ?_
  refine ⟨.bl (!(tb.lookup k).isSome), H, I.tok _, ?_, q⟩
  rcases hf k with ⟨e1, e2⟩ | ⟨ks, b, e1, _, e2⟩
  · rw [e1, e2]; rfl
  · rw [e1, e2]; rfl
end
theorem rd_notCD {K : PySem.W.Frag} {w : World} {tb : List (Str × List Str)} {a : Addr} {k : Str} {H : Hp} {Q : VK} (c : CDat K w a tb) (h : Q (.bl (!(tb.lookup k).isSome)) H) : rNotCD K w tb (.str k) (.ref a) H Q := ⟨a, k, rfl, rfl, c, h⟩
end L2

end
section
set_option Elab.async false
set_option linter.all false
set_option maxRecDepth 100000
set_option maxHeartbeats 4000000
namespace L2
open PySem PySem.Spec PyProof.Rows
section
variable {X : Cx}
noncomputable def rSlS : V → Option Int → Option Int → Hp → VK → Prop := fun x lo hi H Q => ∃ z, x = .str z ∧ z.length ≤ sizeLine ∧ Q (.str (Txt.slice z lo hi)) H
theorem part_of {v : Value} {o : Option Int} (h : IsPart v o) : ∃ l : Option (Int × Tok), v = partValue l ∧ l.map (·.1) = o := by
  cases h with
  | none => exact ⟨none, rfl, rfl⟩
  | int i t => exact ⟨some (i, t), rfl, rfl⟩
theorem sl_str : SlR X rSlS := by
  intro pins s σ H x v vl vu lo hi sl Q I rx hs pl pu h
  obtain ⟨z, rfl, hz, q⟩ := h
  obtain ⟨t, rfl⟩ := rx
  obtain ⟨l, rfl, rfl⟩ := part_of pl
  obtain ⟨u, rfl, rfl⟩ := part_of pu
  refine ⟨"str", _, PySem.F.slot_str_getitem.lookup, typeIs_str s z t, ?_⟩
  refine wpAny_getItem_str_slice (l := l) (u := u) (st := none) hs (by decide) ?_
  have fin : ∀ t' tk, EP X pins σ Q (.str (Txt.slice z (l.map (·.1)) (u.map (·.1))) t') { s with toks := tk } := fun t' tk => ⟨.str _, H, I.tok _, ⟨_, rfl⟩, q⟩
  exact post_val_or_str ⟨Nat.le_trans (Txt.slice_le z _ _) hz, fun t' k => fin t' k⟩
/-- a text so many times -/
noncomputable def repS (z : Str) (n : Int) : Str := if n < 1 then Str.empty else if (n == 1 || z.length == 0) = true then z else ⟨(List.replicate n.toNat z.cps).foldl (· ++ ·) #[]⟩
noncomputable def rRepS : R2 := fun x y H Q => ∃ z n, x = .str z ∧ y = .int n ∧ -1000 ≤ n ∧ n ≤ 1000 ∧ z.length ≤ 1000 ∧ (repS z n).length ≤ sizeLine ∧ Q (.str (repS z n)) H
theorem op_repS : OpR X (binaryOp .Mult) rRepS := by
  intro pins s σ H x y v u Q I rx ry h
  obtain ⟨z, n, rfl, rfl, h1, h2, h3, h4, q⟩ := h
  obtain ⟨t, rfl⟩ := rx
  obtain ⟨t', rfl⟩ := ry
  have hp : ¬ n < 1 → z.length * n.toNat ≤ 1000000 := fun _ => by
    have := Nat.mul_le_mul h3 (show n.toNat ≤ 1000 by omega)
    omega
  refine PySem.P.mul_str (by rw [decide_eq_false (by omega), decide_eq_false (by omega)]; rfl) (fun a _ b => ?_) (fun a _ => ?_) ?_
  · have h5 : ((z.length : Int)) ≤ (2 ^ 63 - 1) / n := by
      rw [Int.le_ediv_iff_mul_le (by omega)]
      have h6 := hp a
      have h7 : (z.length : Int) * n = ((z.length * n.toNat : Nat) : Int) := by rw [Int.natCast_mul, Int.toNat_of_nonneg (by omega)]
      rw [h7]
      omega
    omega
  · have h6 := hp a
    first
      | exact decide_eq_false (by omega)
      | (unfold Builtin.Str.tooLong; rw [decide_eq_false]; rw [sizeLine_eq]; omega)
      | (simp [Builtin.Str.tooLong]; omega)
  · unfold repS at h4 q
    by_cases a : n < 1
    · rw [if_pos a] at h4 q ⊢
      exact ⟨h4, .str _, H, I.tok _, ⟨_, rfl⟩, q⟩
    · rw [if_neg a] at h4 q ⊢
      by_cases b : (n == 1 || z.length == 0) = true
      · rw [if_pos b] at h4 q ⊢
        exact ⟨.str _, H, I, ⟨_, rfl⟩, q⟩
      · rw [if_neg b] at h4 q ⊢
        exact ⟨h4, .str _, H, I.tok _, ⟨_, rfl⟩, q⟩
theorem strs_of : ∀ {us : List Value} {zs : List Str}, Vals (zs.map V.str) us → StrsAre us zs
  | [], [], _ => .nil
  | [], z :: zs, h => by cases h
  | u :: us, [], h => by cases h
  | u :: us, z :: zs, h => by
    cases h with
    | cons r1 r2 =>
      obtain ⟨t, rfl⟩ := r1
      exact .cons z t (strs_of r2)
noncomputable def rJoin (K : PySem.W.Frag) : V → List V → Hp → VK → Prop := fun x vs H Q => ∃ z a zs, x = .str z ∧ vs = [.ref a] ∧ SqL K H a ((zs : List Str).map V.str) ∧ z.length ≤ 16 ∧ (zs.map (·.length)).sum + zs.length ≤ 1048576 ∧ Q (.str (Txt.join z zs)) H
theorem mt_join : MtR X "str.join" (rJoin X.K) := by
  intro pins s σ H x vs v us Q I rx rv h
  obtain ⟨z, a, zs, rfl, rfl, ha, hl, hw, q⟩ := h
  obtain ⟨t, rfl⟩ := rx
  obtain ⟨u, rfl, ru⟩ := rv.one
  cases ru
  obtain ⟨its, vx, ht, _⟩ := I.list ha
  exact join_listW ht.isList (by simpa using strs_of vx) hl hw fun t' k => ⟨.str _, H, I.tok _, ⟨_, rfl⟩, q⟩
end
end L2

end
section
set_option Elab.async false
set_option linter.all false
set_option maxRecDepth 100000
set_option maxHeartbeats 4000000
namespace L2
open PySem PySem.Spec PyProof.Rows
section
variable {X : Cx}
/-! ### all of a list of truths -/
noncomputable def rAll (K : PySem.W.Frag) : List V → Hp → VK → Prop := fun xs H Q => ∃ (a : Addr) (bs : List Bool), xs = [.ref a] ∧ SqL K H a (bs.map V.bl) ∧ Q (.bl (bs.all id)) H
theorem all_range (bs : List Bool) : (List.range bs.length).all (fun i => bs.getD i false) = bs.all id := by
  rw [Bool.eq_iff_iff, List.all_eq_true, List.all_eq_true]
  constructor
  · intro h b hb
    obtain ⟨j, hj, rfl⟩ := List.getElem_of_mem hb
    have := h j (List.mem_range.mpr hj)
    simpa [hj] using this
  · intro h j hj
    have hj := List.mem_range.mp hj
    have := h bs[j] (List.getElem_mem hj)
    simpa [hj] using this
theorem call_allB (hc : X.calm = true) : CallR X (.builtin "all") (rAll X.K) := by
  intro pins s σ H xs us Q I r h
  obtain ⟨a, bs, rfl, ha, q⟩ := h
  obtain ⟨u, rfl, ru⟩ := vals1 r
  cases ru
  obtain ⟨its, vx, ht, _⟩ := I.list ha
  have hlen := vx.length
  rw [List.length_map] at hlen
  have hlt : a < s.heap.objs.size := by obtain ⟨_, e, _⟩ := ht.isList; exact Heap.lt_size e
  refine call_all_walk (wpAny_pyIter_list ht.isList ?_)
  refine ⟨_, _, _, _, _, _, fun i => bs.getD i false, rfl, Walks.list (A := X.A.in1) (I.ok.hd hc) _ a (Nat.ne_of_lt hlt) its.toArray, ⟨⟨_, Heap.get?_push_size _ rfl, rfl, rfl⟩, ht.isList.push _⟩, ?_, fun h' tk hk => ?_⟩
  · intro i v s' Q' E' hv hq
    have hv' : its[i]? = some v := by simpa using hv
    have hi := (List.getElem?_eq_some_iff.mp hv').1
    have hib : i < bs.length := by omega
    obtain ⟨u', eu, ru⟩ := vx.get (i := i) (x := .bl bs[i]) (by rw [List.getElem?_map, List.getElem?_eq_getElem hib]; rfl)
    rw [hv'] at eu
    cases eu
    cases ru
    have e : bs.getD i false = bs[i] := by simp [hib]
    have hq : Q' (bs.getD i false) s' := hq
    rw [e] at hq
    exact wpAny_truthy_bool hq
  · have hsz : its.toArray.size = bs.length := by simp; omega
    rw [hsz, all_range]
    refine ⟨.bl _, H, I.kept fun b o e => ?_, rfl, q⟩
    refine hk b o (fun hm => ?_) (Heap.get?_push_of_some _ e)
    have : b = s.heap.objs.size := by simpa using hm
    rw [this] at e
    exact absurd (Heap.lt_size e) (Nat.lt_irrefl _)
theorem k_all {K : PySem.W.Frag} (h : X.K = K) (hc : X.calm = true) : CallR X (.builtin "all") (rAll K) := h ▸ call_allB hc
end
end L2

end
section
set_option Elab.async false
set_option linter.all false
set_option maxRecDepth 100000
set_option maxHeartbeats 4000000
namespace L2
open PySem
/-! ### rows, programs and runs, as data -/
inductive Rw where
  | put (p n : Int) | copy (p q : Int) | plus (p q r : Int) | less (p q r : Int) | times (p q n : Int) | take (p : Int) | tell (p : Int) | jump (t : Int) | zero (p t : Int) | below (p t : Int) | call (p f : Int) (qs : List Int) | back (p : Int)
noncomputable def Rw.row : Rw → Str × List D
  | .put p n => ("put", [.int p, .int n])
  | .copy p q => ("copy", [.int p, .int q])
  | .plus p q r => ("plus", [.int p, .int q, .int r])
  | .less p q r => ("less", [.int p, .int q, .int r])
  | .times p q n => ("times", [.int p, .int q, .int n])
  | .take p => ("take", [.int p])
  | .tell p => ("tell", [.int p])
  | .jump t => ("jump", [.int t])
  | .zero p t => ("zero", [.int p, .int t])
  | .below p t => ("below", [.int p, .int t])
  | .call p f qs => ("call", [.int p, .int f, .tup (qs.map D.int)])
  | .back p => ("back", [.int p])
structure Df where
  takes : Int
  boxes : Int
  rows : List Rw
inductive En where
  | back (n : Int) | dry (f at' : Int) | deep (f at' : Int)
noncomputable def En.d : Option En → D
  | none => .non
  | some (.back n) => .tup [.str "back", .int n]
  | some (.dry f a) => .tup [.str "dry", .int f, .int a]
  | some (.deep f a) => .tup [.str "deep", .int f, .int a]
noncomputable abbrev Fr := Int × Int × List Int
structure HS where
  frames : List Fr
  left : List Int
  news : List Int
  gone : Int
  fin : Option En
/-! ### where they stand in the heap -/
noncomputable def rowsD (rs : List Rw) : List D := rs.map fun r => rowD r.row
noncomputable def DfAt (own : List Addr) (H : Hp) (d : Df) (v : V) : Prop := ∃ t q ys, v = .ref t ∧ H t = some (.tup [.int d.takes, .int d.boxes, .ref q]) ∧ H q = some (.lst ys) ∧ q ∉ own ∧ Reps H (rowsD d.rows) ys
noncomputable def PgAt (own : List Addr) (H : Hp) (P : List Df) (pp : Addr) : Prop := ∃ vs, H pp = some (.lst vs) ∧ pp ∉ own ∧ vs.length = P.length ∧ ∀ (i : Nat) (d : Df) (v : V), P[i]? = some d → vs[i]? = some v → DfAt own H d v
end L2

end
section
set_option Elab.async false
set_option linter.all false
set_option maxRecDepth 100000
set_option maxHeartbeats 4000000
namespace L2
open PySem
/-! ### the fields of a hand -/
noncomputable def hflds (a b c d e f : V) : List (Str × V) := [("program", a), ("frames", b), ("news", c), ("gone", d), ("left", e), ("end", f)]
section
variable {a b c d e f v : V}
end
/-! ### the objects of a hand -/
noncomputable def AllAt (H : Hp) (l : List (Addr × HO)) : Prop := ∀ e ∈ l, H e.1 = some e.2
noncomputable abbrev FZ := (Addr × Addr) × Fr
noncomputable def frObj (z : FZ) : List (Addr × HO) := [(z.1.1, .lst [.int z.2.1, .int z.2.2.1, .ref z.1.2]), (z.1.2, .lst (z.2.2.2.map V.int))]
noncomputable def hObjs (C p dx pp pf pn pl : Addr) (fz : List FZ) (h : HS) (ve : V) : List (Addr × HO) :=
  [(p, .ins C dx (hflds (.ref pp) (.ref pf) (.ref pn) (.int h.gone) (.ref pl) ve)), (pf, .lst (fz.map fun z => V.ref z.1.1)), (pn, .lst (h.news.map V.int)), (pl, .lst (h.left.map V.int))] ++ fz.flatMap frObj
noncomputable def ownA (p pf pn pl : Addr) (fz : List FZ) : List Addr := [p, pf, pn, pl] ++ fz.flatMap fun z => [z.1.1, z.1.2]
structure HA (C p dx pp pf pn pl : Addr) (fz : List FZ) (H : Hp) (P : List Df) (h : HS) (ve : V) : Prop where
  all : AllAt H (hObjs C p dx pp pf pn pl fz h ve)
  nd : (ownA p pf pn pl fz).Nodup
  en : Rep H (En.d h.fin) ve
  pg : PgAt (ownA p pf pn pl fz) H P pp
  fr : fz.map (·.2) = h.frames
section
variable {C p dx pp pf pn pl : Addr} {fz : List FZ} {H : Hp} {P : List Df} {h : HS} {ve : V}
end
end L2

end
section
set_option Elab.async false
set_option linter.all false
set_option maxRecDepth 100000
set_option maxHeartbeats 4000000
namespace L2
open PySem
theorem atI_neg1 {α : Type} {l : List α} {x : α} : atI (l ++ [x]) (-1) = some x := by
  unfold atI ixN
  rw [if_neg (by omega), if_pos (by simp; omega)]
  simp
  rw [show (-1 + ((l.length : Int) + 1)).toNat = l.length by omega]
  simp
section
variable {C p dx pp pf pn pl : Addr} {fz : List FZ} {z : FZ} {H : Hp} {P : List Df} {h : HS} {ve : V}
end
end L2

end
section
set_option Elab.async false
set_option linter.all false
set_option maxRecDepth 100000
set_option maxHeartbeats 4000000
namespace L2
open PySem PySem.Spec PyProof.Rows
/-! ### for over zip of two lists -/
section
variable {X : Cx} {pins : List (Addr × Obj)} {σ : St} {H : Hp} {s : Shared} {h' : Heap}
end
section
variable {X : Cx} {tg : Expr}
end
end L2

end
section
set_option Elab.async false
set_option linter.all false
set_option maxRecDepth 100000
set_option maxHeartbeats 4000000
namespace L2
open PySem PySem.Spec PyProof.Rows
/-! ### == and != of two programs that are alike -/
section
variable {X : Cx} {pins : List (Addr × Obj)} {σ : St} {H : Hp} {s : Shared}
end
section
variable {X : Cx}
end
/-! ### two programs -/
end L2

end
section
set_option Elab.async false
set_option linter.all false
set_option maxRecDepth 100000
set_option maxHeartbeats 4000000
namespace L2
open PySem
/-! ### a hand that goes stays one -/
section
variable {P : List Df} {h : HS}
end
end L2

end
section
set_option Elab.async false
set_option linter.all false
set_option maxRecDepth 100000
set_option maxHeartbeats 4000000
namespace L2
open PySem
/-! ### what is kept: the objects at kp, and all tuples -/
section
variable {kp own : List Addr} {H0 H H' : Hp}
/-- an owner stays apart from what is there -/
theorem apart {own own' oth : List Addr} (new : ∀ x ∈ own', x ∈ own ∨ H x = none) (d : ∀ x ∈ oth, x ∉ own) (al : ∀ x ∈ oth, H x ≠ none) : ∀ x ∈ oth, x ∉ own' := fun x hx m => by
  rcases new x m with h | h
  · exact d x hx h
  · exact al x hx h
end
section
variable {kp own : List Addr} {H0 H H' : Hp} {P : List Df} {pp : Addr}
end
end L2

end
section
set_option Elab.async false
set_option linter.all false
set_option maxRecDepth 100000
set_option maxHeartbeats 4000000
namespace L2
open PySem PySem.Spec PyProof.Rows
/-! ### two values that are alike, lists and tuples in one another: == tells True, != False -/
/-- both lists, or both tuples, of these items -/
noncomputable def Seqs (H : Hp) (x y : V) (xs ys : List V) : Prop := ∃ a b, x = .ref a ∧ y = .ref b ∧ ((H a = some (.tup xs) ∧ H b = some (.tup ys)) ∨ (H a = some (.lst xs) ∧ H b = some (.lst ys)))
noncomputable def simV : V → Prop
  | .byt _ => False
  | .flt _ => False
  | .ty _ => False
  | _ => True
noncomputable def Alike (H : Hp) : Nat → V → V → Prop
  | 0, x, y => x = y ∧ simV x
  | n + 1, x, y => (x = y ∧ simV x) ∨ ∃ xs ys, Seqs H x y xs ys ∧ xs.length = ys.length ∧ ∀ (j : Nat) (u v : V), xs[j]? = some u → ys[j]? = some v → Alike H n u v
theorem Alike.up {H : Hp} : ∀ {n : Nat} {x y : V}, Alike H n x y → Alike H (n + 1) x y
  | 0, x, y, h => .inl h
  | n + 1, x, y, h => by
    rcases h with h | ⟨xs, ys, s, l, k⟩
    · exact .inl h
    · exact .inr ⟨xs, ys, s, l, fun j u v e1 e2 => (k j u v e1 e2).up⟩
theorem Alike.le {H : Hp} {n m : Nat} {x y : V} (h : Alike H n x y) (l : n ≤ m) : Alike H m x y := by
  induction m with
  | zero => obtain rfl : n = 0 := by omega
            exact h
  | succ m ih =>
    by_cases e : n = m + 1
    · subst e; exact h
    · exact (ih (by omega)).up
theorem Alike.refl {H : Hp} (n : Nat) {x : V} (f : simV x) : Alike H n x x := Alike.le (n := 0) ⟨rfl, f⟩ (Nat.zero_le _)
section
variable {X : Cx} {pins : List (Addr × Obj)} {σ : St} {H : Hp} {s : Shared}
theorem seqs_get {xs : List V} {its : List Value} (vx : Vals xs its) {j : Nat} (h : j < its.toArray.size) : ∃ x, xs[j]? = some x ∧ RelV x its.toArray[j] := by
  have l1 := vx.length
  have h' : j < its.length := by simpa using h
  have e1 : xs[j]? = some (xs[j]'(by omega)) := List.getElem?_eq_getElem _
  obtain ⟨u1, z1, w1⟩ := vx.get e1
  have y1 : its.toArray[j] = u1 := by
    have : its[j]? = some its[j] := List.getElem?_eq_getElem h'
    rw [z1] at this
    simpa using (Option.some.inj this).symm
  exact ⟨_, e1, by rw [y1]; exact w1⟩
theorem rcAt_seqs (I : Inv X pins σ H s) {A : Around} {a b : Addr} {xs ys : List V} (h : (H a = some (.tup xs) ∧ H b = some (.tup ys)) ∨ (H a = some (.lst xs) ∧ H b = some (.lst ys))) (hl : xs.length = ys.length) (hu : A.units < cLine)
    (k : ∀ (j : Nat) (u v : V) (u' v' : Value), xs[j]? = some u → ys[j]? = some v → RelV u u' → RelV v v' → SeqAt.EqAt A.in1 s u' v' true) : SeqAt.RcAt A s (.ref a) (.ref b) true := by
  rcases h with ⟨ha, hb⟩ | ⟨ha, hb⟩
  · obtain ⟨its, vx, ht⟩ := I.isTup ha
    obtain ⟨its', vy, ht'⟩ := I.isTup hb
    have l1 := vx.length
    have l2 := vy.length
    have key := SeqAt.RcAt.tuples (A := A) (e := fun _ => true) ht ht' hu fun j j1 j2 => by
      obtain ⟨x, e1, r1⟩ := seqs_get vx j1
      obtain ⟨y, e2, r2⟩ := seqs_get vy j2
      exact k j x y _ _ e1 e2 r1 r2
    have e : ((List.range (min its.toArray.size its'.toArray.size)).all (fun _ => true) && its.toArray.size == its'.toArray.size) = true := by
      simp; omega
    rw [e] at key
    exact key
  · obtain ⟨its, vx, ht, _⟩ := I.list (SqL.of ha)
    obtain ⟨its', vy, ht', _⟩ := I.list (SqL.of hb)
    have l1 := vx.length
    have l2 := vy.length
    have key := SeqAt.RcAt.lists (A := A) (e := fun _ => true) ht.isList ht'.isList (by simp; omega) hu fun j j1 j2 => by
      obtain ⟨x, e1, r1⟩ := seqs_get vx j1
      obtain ⟨y, e2, r2⟩ := seqs_get vy j2
      exact k j x y _ _ e1 e2 r1 r2
    have e : (List.range its.toArray.size).all (fun _ => true) = true := by simp
    rw [e] at key
    exact key
theorem eqAt_alike (I : Inv X pins σ H s) : ∀ (n : Nat) {x y : V} {u v : Value} {A : Around}, Alike H n x y → RelV x u → RelV y v → A.units + n < cLine → SeqAt.EqAt A s u v true := by
  have flat : ∀ {x : V} {u v : Value} {A : Around}, simV x → RelV x u → RelV x v → SeqAt.EqAt A s u v true := by
    intro x u v A f ru rv
    cases x with
    | non => cases ru; cases rv; exact SeqAt.EqAt.same _
    | bl b => cases ru; cases rv; exact SeqAt.EqAt.same _
    | int i =>
      obtain ⟨t, rfl⟩ := ru; obtain ⟨t', rfl⟩ := rv
      have := SeqAt.EqAt.int_int (A := A) (s := s) i t i t'
      simpa using this
    | str i =>
      obtain ⟨t, rfl⟩ := ru; obtain ⟨t', rfl⟩ := rv
      have := SeqAt.EqAt.str_str (A := A) (s := s) i t i t'
      simpa using this
    | ref a => cases ru; cases rv; exact SeqAt.EqAt.same _
    | _ => cases f
  intro n
  induction n with
  | zero =>
    rintro x y u v A ⟨rfl, f⟩ ru rv hu
    exact flat f ru rv
  | succ n ih =>
    rintro x y u v A h ru rv hu
    rcases h with ⟨rfl, f⟩ | ⟨xs, ys, ⟨a, b, rfl, rfl, h⟩, hl, k⟩
    · exact flat f ru rv
    · cases ru; cases rv
      by_cases hab : a = b
      · subst hab; exact SeqAt.EqAt.same _
      · exact SeqAt.EqAt.of_refs hab (rcAt_seqs I h hl (by omega) fun j u v u' v' e1 e2 r1 r2 => ih (k j u v e1 e2) r1 r2 (by show A.units + 1 + n < cLine; omega))
noncomputable def rEqA : R2 := fun x y H Q => ∃ xs ys, Seqs H x y xs ys ∧ xs.length = ys.length ∧ (∀ (j : Nat) (u v : V), xs[j]? = some u → ys[j]? = some v → Alike H 40 u v) ∧ Q (.bl true) H
theorem op_eqA (hu : X.A.units + 64 < cLine) : OpR X (compareOp .Eq) rEqA := by
  rintro pins s σ H x y v u Q I rx ry ⟨xs, ys, ⟨a, b, rfl, rfl, h⟩, hl, k, q⟩
  cases rx; cases ry
  have key := rcAt_seqs (A := X.A) I h hl (by omega) fun j u v u' v' e1 e2 r1 r2 => eqAt_alike I 40 (k j u v e1 e2) r1 r2 (by show X.A.units + 1 + 40 < cLine; omega)
  exact key _ _ _ _ (fin_bl I q rfl)
end
/-! ### what is alike -/
section
variable {H : Hp}
/-- two lists, or two tuples, that are alike -/
noncomputable def AlikeS (H : Hp) (n : Nat) (x y : V) : Prop := ∃ xs ys, Seqs H x y xs ys ∧ xs.length = ys.length ∧ ∀ (j : Nat) (u v : V), xs[j]? = some u → ys[j]? = some v → Alike H n u v
theorem alike_lst {n : Nat} {a b : Addr} {xs ys : List V} (ha : H a = some (.lst xs)) (hb : H b = some (.lst ys)) (hl : xs.length = ys.length) (k : ∀ (j : Nat) (u v : V), xs[j]? = some u → ys[j]? = some v → Alike H n u v) : AlikeS H n (.ref a) (.ref b) := ⟨xs, ys, ⟨a, b, rfl, rfl, .inr ⟨ha, hb⟩⟩, hl, k⟩
theorem al_nil {n : Nat} : ∀ (j : Nat) (u v : V), ([] : List V)[j]? = some u → ([] : List V)[j]? = some v → Alike H n u v := fun j u v e _ => by simp at e
theorem al_cons {n : Nat} {x y : V} {xs ys : List V} (h : Alike H n x y) (t : ∀ (j : Nat) (u v : V), xs[j]? = some u → ys[j]? = some v → Alike H n u v) : ∀ (j : Nat) (u v : V), (x :: xs)[j]? = some u → (y :: ys)[j]? = some v → Alike H n u v
  | 0, u, v, e1, e2 => by simp at e1 e2; subst e1; subst e2; exact h
  | j + 1, u, v, e1, e2 => t j u v (by simpa using e1) (by simpa using e2)
theorem rd_eqA {x y : V} {Q : VK} (h : AlikeS H 40 x y) (q : Q (.bl true) H) : rEqA x y H Q := by
  obtain ⟨xs, ys, s, l, k⟩ := h
  exact ⟨xs, ys, s, l, k, q⟩
end
end L2

end
section
set_option Elab.async false
set_option linter.all false
set_option maxRecDepth 100000
set_option maxHeartbeats 4000000
namespace L2
open PySem
/-! ### a walk: what is new since H0 (lists L, data R); of the old objects only those at ow may change -/
section
variable {ow : List Addr} {H0 H H' : Hp} {L L' l1 l2 : List (Addr × HO)} {R R' : List (List D × List V)} {Q : VK} {a q : Addr} {o : HO} {xs ys vs : List V} {ds : List D} {d : D} {v : V}
end
/-! ### with the law's bag -/
section
variable {b l : Addr} {H0 H H' : Hp} {L L' l1 l2 : List (Addr × HO)} {R R' : List (List D × List V)} {Q : VK} {E : XK} {a q : Addr} {o : HO} {xs ys vs : List V} {ds : List D} {d : D} {v : V}
end
theorem rd_lenT' {K : PySem.W.Frag} {H : Hp} {p : Addr} {ys : List V} {Q : VK} (h : SqT K H p ys) (q : Q (.int ys.length) H) : rLen K [.ref p] H Q := ⟨_, _, rfl, .inr ⟨ys, h, rfl⟩, q⟩
section
variable {ow : List Addr} {b l : Addr} {K : PySem.W.Frag} {H0 H H' : Hp} {L L' l1 l2 : List (Addr × HO)} {R R' : List (List D × List V)} {Q : VK} {E : XK} {a q p : Addr} {o : HO} {xs ys zs vs : List V} {ds : List D} {d : D} {v : V}
end
/-! ### slices of tuples -/
end L2

end
section
set_option Elab.async false
set_option linter.all false
set_option maxRecDepth 100000
set_option maxHeartbeats 4000000
namespace HT
open PySem PySem.Spec PyProof.Rows L2
section
variable {prog : Program} {w : World} {A : Around} {E : Value → Shared → Prop} {s : Shared}
/-- t + u, t empty: u itself -/
theorem cat_tup0 {t b : Addr} {vs ws : List Value} {Q : Value → Shared → Prop} (ht : IsTup s.heap t vs.toArray) (hb : IsTup s.heap b ws.toArray) (hv : vs = []) (h1 : Q (.ref b) s) : wpAny (model prog w) A (binaryOp .Add (.ref t) (.ref b)) Q E s := by
  obtain ⟨⟨cls, dd, data, sl⟩, ho, hc, n, hd⟩ := id ht
  obtain ⟨⟨cls2, dd2, data2, sl2⟩, ho2, hc2, n2, hd2⟩ := id hb
  simp only at hc hd hc2 hd2
  subst hc hd hc2 hd2
  exact concat_meets ⟨_, ho, rfl⟩ ⟨_, ho2, rfl⟩ noFill_tuple_add seq_tuple_add PySem.F.slot_tuple_add PySem.F.entry_tuple_add (PySem.F.args_tuple_add_2 _ _) (tuple_addW0 t b vs.toArray ws.toArray n n2 dd dd2 sl sl2 (by simp [hv])) ⟨ho, ho2, h1⟩
/-- t[a:b], the whole: t itself -/
theorem getItem_tuple_all {t sl : Addr} {items : Array Value} {vl vu : Value} {lo hi : Option Int} {Q : Value → Shared → Prop} (ht : IsTup s.heap t items) (hs : s.heap.IsSliceOf sl vl vu .none) (pl : IsPart vl lo) (pu : IsPart vu hi)
    (hw : sIx items.size 0 lo = 0 ∧ sIx items.size items.size hi = items.size) (h : Q (.ref t) s) : wpAny (model prog w) A (getItem (.ref t) (.ref sl)) Q E s := by
  obtain ⟨os, hos, hcs, hds⟩ := id hs
  have hTs : s.TypeIs (.ref sl) "slice" := ⟨os, hos, hcs⟩
  unfold getItem
  try with_reducible refine wpAny_holding ?_
  first | refine wpAny_bind (wpAny_pure ?_) | skip
  refine wpAny_bind (wpAny_sequenceKey ht.typeIs (by decide) ?_)
  refine wpAny_bind (wpAny_callSpecial?_slot (name := Str.ofString "__getitem__") ht.typeIs PyProof.Rows.slot_tuple_getitem
    (wpAny_call_entry PyProof.Rows.slot_tuple_getitem ht.typeIs entry_tuple_getitem ?_ (args_tuple_getitem _ _)))
  show wpAny _ _ (Builtin.Tuple.tupleItemsOf (.ref t) >>= _) _ _ s
  refine wpAny_bind (tupleItemsOf_ ht ?_)
  refine wpAny_bind (wpAny_typeOf hTs ?_)
  rw [if_pos (by decide)]
  refine wpAny_bind (sliceApplied_gen hs pl pu ?_)
  have hyes : ((((sIx items.size 0 lo : Nat) : Int) == 0 && (1 : Int) == 1 && (sIx items.size items.size hi - sIx items.size 0 lo) == items.size) = true) := by
    rw [hw.1, hw.2]; simp
  show wpAny _ _ (if (((sIx items.size 0 lo : Nat) : Int) == 0 && (1 : Int) == 1 && (sIx items.size items.size hi - sIx items.size 0 lo) == items.size) = true then _ else _) _ _ s
  rw [if_pos hyes]
  refine wpAny_bind ?_
  refine wpAny_bind ?_
  refine wpAny_typeOf ht.typeIs (wpAny_pure ?_)
  rw [if_pos (by decide)]
  exact wpAny_bind (wpAny_rule (wpAny_pure ⟨_, rfl, wpAny_pure h⟩))
end
end HT
namespace L2
open PySem PySem.Spec PyProof.Rows
section
variable {X : Cx} {K : PySem.W.Frag}
/-- t[lo:hi], the whole or not -/
noncomputable def rSlW (K : PySem.W.Frag) : V → Option Int → Option Int → Hp → VK → Prop := fun x lo hi H Q => ∃ a xs, x = .ref a ∧ SqT K H a xs ∧ (cutV xs lo hi = xs → Q (.ref a) H) ∧ ∀ p, H p = none → Q (.ref p) (upd H p (.tup (cutV xs lo hi)))
theorem sl_tupW : SlR X (rSlW X.K) := by
  intro pins s σ H x v vl vu lo hi sl Q I rx hs pl pu h
  obtain ⟨a, xs, rfl, hx, q1, q⟩ := h
  by_cases hw : HT.sIx xs.length 0 lo = 0 ∧ HT.sIx xs.length xs.length hi = xs.length
  · cases rx
    obtain ⟨its, r, ht, hz⟩ := I.tuple hx
    have hlen : its.toArray.size = xs.length := by rw [List.size_toArray]; exact r.length.symm
    refine ⟨"tuple", _, PyProof.Rows.slot_tuple_getitem.lookup, ht.typeIs, ?_⟩
    refine HT.getItem_tuple_all ht hs pl pu (by rw [hlen]; exact hw) ?_
    refine ⟨.ref a, H, I, rfl, q1 ?_⟩
    unfold cutV
    rw [hw.1, hw.2]
    simp
  · exact sl_tup pins s σ H _ v vl vu lo hi sl Q I rx hs pl pu ⟨a, xs, rfl, hx, hw, q⟩
theorem k_slW (h : X.K = K) : SlR X (rSlW K) := h ▸ sl_tupW
/-- t + u of any two tuples -/
noncomputable def rCatW (K : PySem.W.Frag) : R2 := fun x y H Q => ∃ a b xs ys, x = .ref a ∧ y = .ref b ∧ SqT K H a xs ∧ SqT K H b ys ∧ xs.length + ys.length ≤ sizeLine ∧
  (xs = [] → Q (.ref b) H) ∧ (ys = [] → Q (.ref a) H) ∧ ∀ p, H p = none → Q (.ref p) (upd H p (.tup (xs ++ ys)))
theorem op_catW : OpR X (binaryOp .Add) (rCatW X.K) := by
  intro pins s σ H x y v u Q I rx ry h
  obtain ⟨a, b, xs, ys, rfl, rfl, ha, hb, hz, q0, q1, q2⟩ := h
  by_cases hx : xs = []
  · cases rx
    cases ry
    obtain ⟨its, r1, p1, _⟩ := I.tuple ha
    obtain ⟨its2, r2, p2, _⟩ := I.tuple hb
    exact HT.cat_tup0 p1 p2 (r1.nil_iff.mpr hx) ⟨.ref b, H, I, rfl, q0 hx⟩
  · exact op_catT pins s σ H _ _ v u Q I rx ry ⟨a, b, xs, ys, rfl, rfl, ha, hb, hx, hz, q1, fun _ => q2⟩
theorem k_catW (h : X.K = K) : OpR X (binaryOp .Add) (rCatW K) := h ▸ op_catW
end
/-- readings: some tuple with these items, new or not; the heap only grows -/
theorem rd_slW {K : PySem.W.Frag} {H : Hp} {a : Addr} {xs : List V} {lo hi : Option Int} {Q : VK} (h : H a = some (.tup xs)) (q : ∀ p H', H' p = some (.tup (cutV xs lo hi)) → Same H H' → Q (.ref p) H') : rSlW K (.ref a) lo hi H Q :=
  ⟨a, xs, rfl, SqT.of h, fun e => q a H (by rw [e]; exact h) (Same.refl _), fun p hp => q p _ upd_same (Same.new hp)⟩
theorem rd_catW {K : PySem.W.Frag} {H : Hp} {a b : Addr} {xs ys : List V} {Q : VK} (h1 : H a = some (.tup xs)) (h2 : H b = some (.tup ys)) (hz : xs.length + ys.length ≤ 1000000) (q : ∀ p H', H' p = some (.tup (xs ++ ys)) → Same H H' → Q (.ref p) H') : rCatW K (.ref a) (.ref b) H Q :=
  ⟨a, b, xs, ys, rfl, rfl, SqT.of h1, SqT.of h2, small_le' hz, fun e => q b H (by rw [e]; exact h2) (Same.refl _), fun e => q a H (by rw [e, List.append_nil]; exact h1) (Same.refl _), fun p hp => q p _ upd_same (Same.new hp)⟩
end L2

end
section
set_option Elab.async false
set_option linter.all false
set_option maxRecDepth 100000
set_option maxHeartbeats 4000000
namespace L2
open PySem PySem.Spec PyProof.Rows PySem.Builtin PySem.Builtin.Str
section
variable {X : Cx}
/-! ### texts: split, startswith, int(text), a module's own text -/
theorem str_vals : ∀ (l : List (Str × Tok)), Vals ((l.map (·.1)).map V.str) (strValues l)
  | [] => .nil
  | (z, t) :: l => .cons ⟨t, rfl⟩ (str_vals l)
theorem split_len (x y : Str) : (Txt.split x y).length ≤ x.length + 2 := by
  unfold Txt.split
  split
  · show 1 ≤ _; omega
  · split
    · show 1 ≤ _; omega
    · rw [length_partsBetween]
      have := StrLaws.occ_length_le x y 0 x.length (x.length + 1)
      omega
noncomputable def rSplit : V → List V → Hp → VK → Prop := fun x vs H Q => ∃ z y, x = .str z ∧ vs = [.str y] ∧ (y.length == 0) = false ∧ z.length + 2 ≤ sizeLine ∧ ∀ p, H p = none → Q (.ref p) (upd H p (.lst ((Txt.split z y).map V.str)))
theorem mt_split : MtR X "str.split" rSplit := by
  intro pins s σ H x vs v us Q I rx rv h
  obtain ⟨z, y, rfl, rfl, hy, hl, q⟩ := h
  obtain ⟨t, rfl⟩ := rx
  obtain ⟨u, rfl, ru⟩ := rv.one
  obtain ⟨t', rfl⟩ := ru
  have hn := split_len z y
  have fin : ∀ (l : List (Str × Tok)) (k : Nat), l.map (·.1) = Txt.split z y → EP X pins σ Q (.ref s.heap.objs.size) { s with toks := k, heap := s.heap.push { cls := .type "list", data := .seq (strValues l).toArray } } := by
    intro l k e
    refine ⟨.ref s.heap.objs.size, _, I.laid (t' := k) (fun b u e => Heap.get?_push_of_some _ e) (Nat.le_refl _) ?_, rfl, q _ I.fresh⟩
    refine ⟨by rw [List.length_map]; omega, strValues l, 0, by rw [← e]; exact str_vals l, Heap.get?_push_size _ rfl⟩
  have hx : z.length ≤ sizeLine := by omega
  have hp : (partsBetween z (occurrences z y 0 z.length (z.length + 1)) y.length).length ≤ sizeLine := by
    rw [length_partsBetween]
    have := StrLaws.occ_length_le z y 0 z.length (z.length + 1)
    omega
  cases h1 : (decide (z.length < y.length) || decide (strKind z < strKind y))
  · cases hf : (occurrences z y 0 z.length (z.length + 1)).isEmpty
    · refine call_meets F.slot_str_split (typeIs_str _ _ _) F.entry_str_split (F.args_str_split_2 _ _) (meets_str_split_sep z y t t' h1 hy hf hx hp) ?_
      show wants _ _ _ { s with toks := _, heap := s.heap.push { cls := .type "list", data := .seq (strsFrom s.toks (partsBetween z (occurrences z y 0 z.length (z.length + 1)) y.length)).toArray } }
      rw [strsFrom_eq]
      exact fin (numbered s.toks _) _ ((numbered_texts _ _).trans ((if_neg (ne_true_of_eq_false h1)).trans (if_neg (ne_true_of_eq_false hf))).symm)
    · exact call_meets F.slot_str_split (typeIs_str _ _ _) F.entry_str_split (F.args_str_split_2 _ _) (meets_str_split_not_found z y t t' h1 hy hf) (fin [(z, t)] _ ((if_neg (ne_true_of_eq_false h1)).trans (if_pos hf)).symm)
  · exact call_meets F.slot_str_split (typeIs_str _ _ _) F.entry_str_split (F.args_str_split_2 _ _) (meets_str_split_cannot_occur z y t t' h1) (fin [(z, t)] _ (if_pos h1).symm)
theorem rd_split {z y : Str} {H : Hp} {Q : VK} (hy : (y.length == 0) = false) (hl : z.length + 2 ≤ sizeLine) (q : ∀ p, H p = none → Q (.ref p) (upd H p (.lst ((Txt.split z y).map V.str)))) : rSplit (.str z) [.str y] H Q := ⟨z, y, rfl, rfl, hy, hl, q⟩
noncomputable def rStarts : V → List V → Hp → VK → Prop := fun x vs H Q => ∃ z y, x = .str z ∧ vs = [.str y] ∧ Q (.bl (Txt.startswith z y)) H
theorem mt_starts : MtR X "str.startswith" rStarts := by
  intro pins s σ H x vs v us Q I rx rv h
  obtain ⟨z, y, rfl, rfl, q⟩ := h
  obtain ⟨t, rfl⟩ := rx
  obtain ⟨u, rfl, ru⟩ := rv.one
  obtain ⟨t', rfl⟩ := ru
  exact call_meets F.slot_str_startswith (typeIs_str _ _ _) F.entry_str_startswith (F.args_str_startswith_2 _ _) (gives_str_startswith z y t t').meets ⟨.bl _, H, I, rfl, q⟩
theorem rd_starts {z y : Str} {H : Hp} {Q : VK} (q : Q (.bl (Txt.startswith z y)) H) : rStarts (.str z) [.str y] H Q := ⟨z, y, rfl, rfl, q⟩
noncomputable def rIntT : List V → Hp → VK → Prop := fun xs H Q => ∃ z n, xs = [.str z] ∧ PySem.intText? z = some n ∧ z.length ≤ 640 ∧ Q (.int n) H
theorem call_intT : CallR X (.type "int") rIntT := by
  intro pins s σ H xs us Q I r h
  obtain ⟨z, n, rfl, hn, hl, q⟩ := h
  obtain ⟨u, rfl, ru⟩ := vals1 r
  obtain ⟨t, rfl⟩ := ru
  exact PySem.W.KIN.call_text hn hl ⟨.int n, H, I.tok _, ⟨_, rfl⟩, q⟩
theorem rd_intT {z : Str} {n : Int} {H : Hp} {Q : VK} (h : PySem.intText? z = some n) (hl : z.length ≤ 640) (q : Q (.int n) H) : rIntT [.str z] H Q := ⟨z, n, rfl, h, hl, q⟩
noncomputable def rStrI : List V → Hp → VK → Prop := fun xs H Q => ∃ i, xs = [.int i] ∧ i.natAbs.log2 < 1920 ∧ Q (.str (toString i)) H
theorem call_strI : CallR X (.type "str") rStrI := call_str_int
theorem rd_strI {i : Int} {H : Hp} {Q : VK} (h : i.natAbs.log2 < 1920) (q : Q (.str (toString i)) H) : rStrI [.int i] H Q := ⟨i, rfl, h, q⟩
noncomputable def rAddS : R2 := fun x y H Q => ∃ i j, x = .str i ∧ y = .str j ∧ i.length + j.length ≤ sizeLine ∧ Q (.str (i ++ j)) H
theorem op_addS : OpR X (binaryOp .Add) rAddS := op_add_str
theorem rd_addS {i j : Str} {H : Hp} {Q : VK} (h : i.length + j.length ≤ sizeLine) (q : Q (.str (i ++ j)) H) : rAddS (.str i) (.str j) H Q := ⟨i, j, rfl, rfl, h, q⟩
noncomputable def rInS : R2 := fun x y H Q => ∃ i j, x = .str i ∧ y = .str j ∧ Q (.bl (!(Builtin.Str.occurrences j i 0 j.length 1).isEmpty)) H
theorem op_inS : OpR X (compareOp .In) rInS := op_in_str
/-- one sign in a text -/
theorem rd_inS1 {c : Nat} {z : Str} {H : Hp} {Q : VK} (q : Q (.bl (decide (c ∈ z.cps.toList))) H) : rInS (.str ⟨#[c]⟩) (.str z) H Q := ⟨_, _, rfl, rfl, by rw [StrLaws.found_one]; exact q⟩
theorem k_join {K : PySem.W.Frag} (h : X.K = K) : MtR X "str.join" (rJoin K) := h ▸ mt_join
theorem rd_join {K : PySem.W.Frag} {z : Str} {a : Addr} {zs : List Str} {H : Hp} {Q : VK} (ha : SqL K H a (zs.map V.str)) (hl : z.length ≤ 16) (hw : (zs.map (·.length)).sum + zs.length ≤ 1048576) (q : Q (.str (Str.join z zs)) H) : rJoin K (.str z) [.ref a] H Q :=
  ⟨z, a, zs, rfl, rfl, ha, hl, hw, by rw [show Txt.join z zs = Str.join z zs from StrLaws.glued_eq_join z zs]; exact q⟩
theorem pe_cstr {x z : Str} {pos : Pos} (hg : Gl X x) (h : ∃ t, X.mg x = some (.str z t)) (hd : (x == ("__debug__" : Str)) = false := by decide) : PE X (.Name x pos) (tC (.str z)) := by
  obtain ⟨t, ht⟩ := h
  intro pins s σ H Q I q
  exact ld_glob I hg ht ⟨.str z, H, I, ⟨t, rfl⟩, q⟩ hd
end
end L2

end
section
set_option Elab.async false
set_option linter.all false
set_option maxRecDepth 100000
set_option maxHeartbeats 4000000
namespace L2
open PySem PySem.Spec PyProof.Rows PySem.Builtin PySem.Builtin.Str PySem.NumText
/-! ### texts, as data -/
noncomputable abbrev cs (z : Str) : List Nat := z.cps.toList
theorem cs_inj {x y : Str} (h : cs x = cs y) : x = y := by
  obtain ⟨a⟩ := x
  obtain ⟨b⟩ := y
  have : a = b := Array.toList_inj.mp h
  rw [this]
theorem cs_app (x y : Str) : cs (x ++ y) = cs x ++ cs y := cps_toList_append x y
theorem cs_len (x : Str) : (cs x).length = x.length := Array.length_toList
theorem len_app (x y : Str) : (x ++ y).length = x.length + y.length := by
  rw [← cs_len, ← cs_len, ← cs_len, cs_app, List.length_append]
/-- joined by one sign -/
noncomputable def jn (c : Nat) : List (List Nat) → List Nat
  | [] => []
  | [x] => x
  | x :: y :: r => x ++ c :: jn c (y :: r)
theorem cs_join (c : Nat) : ∀ (ps : List Str), cs (Str.join ⟨#[c]⟩ ps) = jn c (ps.map cs)
  | [] => rfl
  | [x] => rfl
  | x :: y :: r => by
    show cs (x ++ ⟨#[c]⟩ ++ Str.join ⟨#[c]⟩ (y :: r)) = _
    rw [cs_app, cs_app, cs_join c (y :: r)]
    show (cs x ++ [c]) ++ _ = cs x ++ c :: _
    rw [List.append_assoc]
    rfl
theorem jn_one {c : Nat} : ∀ {ps qs : List (List Nat)}, ps ≠ [] → qs ≠ [] → (∀ p ∈ ps, c ∉ p) → (∀ q ∈ qs, c ∉ q) → jn c ps = jn c qs → ps = qs := by
  have cut : ∀ {x y a b : List Nat}, c ∉ x → c ∉ y → x ++ c :: a = y ++ c :: b → x = y ∧ a = b := by
    intro x
    induction x with
    | nil =>
      intro y a b _ hy e
      cases y with
      | nil => exact ⟨rfl, (List.cons.inj e).2⟩
      | cons d y => exact absurd ((List.cons.inj e).1 ▸ List.mem_cons_self) hy
    | cons d x ih =>
      intro y a b hx hy e
      cases y with
      | nil => exact absurd ((List.cons.inj e).1 ▸ List.mem_cons_self) hx
      | cons d' y =>
        obtain ⟨e1, e2⟩ := List.cons.inj e
        obtain ⟨e3, e4⟩ := ih (fun h => hx (List.mem_cons_of_mem _ h)) (fun h => hy (List.mem_cons_of_mem _ h)) e2
        exact ⟨by rw [e1, e3], e4⟩
  intro ps
  induction ps with
  | nil => intro qs h; exact absurd rfl h
  | cons p ps ih =>
    intro qs _ hq fp fq e
    cases qs with
    | nil => exact absurd rfl hq
    | cons q qs =>
      cases ps with
      | nil =>
        cases qs with
        | nil => exact congrArg (fun z => [z]) e
        | cons q2 qs =>
          refine absurd ?_ (fp p List.mem_cons_self)
          rw [show p = q ++ c :: jn c (q2 :: qs) from e]
          exact List.mem_append_right _ List.mem_cons_self
      | cons p2 ps =>
        cases qs with
        | nil =>
          refine absurd ?_ (fq q List.mem_cons_self)
          rw [show q = p ++ c :: jn c (p2 :: ps) from e.symm]
          exact List.mem_append_right _ List.mem_cons_self
        | cons q2 qs =>
          obtain ⟨e1, e2⟩ := cut (fp p List.mem_cons_self) (fq q List.mem_cons_self) e
          rw [e1, ih (List.cons_ne_nil _ _) (List.cons_ne_nil _ _) (fun z hz => fp z (List.mem_cons_of_mem _ hz)) (fun z hz => fq z (List.mem_cons_of_mem _ hz)) e2]
theorem split_ne (x y : Str) : Txt.split x y ≠ [] := by
  unfold Txt.split
  split
  · exact List.cons_ne_nil _ _
  · split
    · exact List.cons_ne_nil _ _
    · intro h
      have := congrArg List.length h
      rw [length_partsBetween] at this
      exact absurd this (Nat.succ_ne_zero _)
/-- what was joined is cut again -/
theorem split_join {c : Nat} {ps : List Str} (h : ps ≠ []) (f : ∀ p ∈ ps, c ∉ cs p) : Txt.split (Str.join ⟨#[c]⟩ ps) ⟨#[c]⟩ = ps := by
  have e := StrLaws.join_split (Str.join ⟨#[c]⟩ ps) ⟨#[c]⟩
  have e1 := congrArg cs e
  rw [cs_join, cs_join] at e1
  have e2 := jn_one (fun z => split_ne _ _ (List.map_eq_nil_iff.mp z)) (fun z => h (List.map_eq_nil_iff.mp z)) (fun p hp => by
    obtain ⟨q, hq, rfl⟩ := List.mem_map.mp hp
    exact StrLaws.split_free _ c q hq) (fun p hp => by
    obtain ⟨q, hq, rfl⟩ := List.mem_map.mp hp
    exact f q hq) e1
  exact List.map_inj_right (f := cs) (fun _ _ => cs_inj) |>.mp e2
/-- lists of lines, joined -/
theorem join_two (s : Str) : ∀ {a b : List Str}, a ≠ [] → b ≠ [] → Str.join s (a ++ b) = Str.join s a ++ s ++ Str.join s b
  | [], _, h, _ => absurd rfl h
  | [x], [], _, h => absurd rfl h
  | [x], y :: b, _, _ => rfl
  | x :: y :: a, b, _, hb => by
    show x ++ s ++ Str.join s (y :: a ++ b) = x ++ s ++ Str.join s (y :: a) ++ s ++ Str.join s b
    rw [join_two s (List.cons_ne_nil y a) hb]
    apply cs_inj
    simp only [cs_app, List.append_assoc]
theorem join_flat (s : Str) : ∀ {ls : List (List Str)}, (∀ l ∈ ls, l ≠ []) → Str.join s (ls.map (Str.join s)) = Str.join s ls.flatten
  | [], _ => rfl
  | [l], _ => by
    show Str.join s l = Str.join s (l ++ [])
    rw [List.append_nil]
  | l :: m :: ls, h => by
    show Str.join s l ++ s ++ Str.join s ((m :: ls).map (Str.join s)) = Str.join s (l ++ (m :: ls).flatten)
    have hn : (m :: ls).flatten ≠ [] := by
      intro z
      have := List.append_eq_nil_iff.mp (show m ++ ls.flatten = [] from z)
      exact h m (List.mem_cons_of_mem _ List.mem_cons_self) this.1
    rw [join_flat s (fun x hx => h x (List.mem_cons_of_mem _ hx)), join_two s (h l List.mem_cons_self) hn]
theorem join_snoc (s : Str) {a : List Str} {x : Str} (h : a ≠ []) : Str.join s (a ++ [x]) = Str.join s a ++ s ++ x := join_two s h (List.cons_ne_nil _ _)
/-! ### whole numbers as texts -/
noncomputable def numS (n : Int) : Str := toString n
noncomputable def figs (m : Nat) : List Nat := (Nat.toDigits 10 m).map Char.toNat
theorem cs_num (m : Nat) : cs (numS (m : Int)) = figs m := PySem.W.KIN.signs_num m
theorem cs_neg (m : Nat) : cs (numS (-((m + 1 : Nat) : Int))) = 45 :: figs (m + 1) := by
  show (Str.ofString (toString (Int.negSucc m))).cps.toList = _
  rw [signs_ofString]
  show (("-" ++ Nat.repr (m + 1) : String)).toList.map Char.toNat = _
  rw [String.toList_append, List.map_append, Nat.toList_repr]
  rfl
theorem figs_digits (m : Nat) : AllDigits (figs m) := by
  intro c hc
  obtain ⟨ch, hch, e⟩ := List.mem_map.mp hc
  rw [← e]
  exact digit_range (Nat.isDigit_of_mem_toDigits (by decide) (by decide) hch)
theorem figs_ne (m : Nat) : figs m ≠ [] := by
  intro e
  have h := toDigits_len_ge 10 m
  rw [List.map_eq_nil_iff.mp e] at h
  exact absurd h (by decide)
theorem figs_big {m : Nat} (h : 10 ≤ m) : figs m = figs (m / 10) ++ figs (m % 10) := by
  have t : Nat.toDigits 10 (m / 10) ++ Nat.toDigits 10 (m % 10) = Nat.toDigits 10 (10 * (m / 10) + m % 10) := Nat.toDigits_append_toDigits (by decide) (by omega) (Nat.mod_lt m (by decide))
  rw [Nat.div_add_mod] at t
  unfold figs
  rw [← t, List.map_append]
theorem figs_one : ∀ m : Nat, m < 10 → figs m = [48 + m] := by decide
theorem figs_len : ∀ (k m : Nat), 0 < k → m < 10 ^ k → (figs m).length ≤ k := by
  intro k
  induction k with
  | zero => intro m h; exact absurd h (Nat.lt_irrefl _)
  | succ k ih =>
    intro m _ hm
    by_cases h : m < 10
    · rw [figs_one m h]
      exact Nat.le_add_left _ _
    · rw [figs_big (by omega), List.length_append, figs_one _ (Nat.mod_lt m (by decide))]
      cases k with
      | zero => omega
      | succ k =>
        have := ih (m / 10) (Nat.succ_pos _) (by rw [Nat.div_lt_iff_lt_mul (by decide)]; rw [Nat.pow_succ] at hm; exact hm)
        show _ + 1 ≤ _
        omega
theorem figs_head : ∀ (m : Nat), 0 < m → ∃ c r, figs m = c :: r ∧ c ≠ 48 := by
  intro m
  induction m using Nat.strongRecOn with
  | _ m ih =>
    intro hm
    by_cases h : m < 10
    · exact ⟨48 + m, [], figs_one m h, by omega⟩
    · obtain ⟨c, r, e, n⟩ := ih (m / 10) (by omega) (by omega)
      exact ⟨c, r ++ figs (m % 10), by rw [figs_big (by omega), e]; rfl, n⟩
theorem figs_val (m : Nat) : digitsVal (figs m) = m := PySem.W.KIN.val_back m
theorem num_cases (n : Int) : (∃ m : Nat, n = m ∧ cs (numS n) = figs m) ∨ ∃ m : Nat, 0 < m ∧ n = -(m : Int) ∧ cs (numS n) = 45 :: figs m := by
  rcases Int.lt_or_le n 0 with h | h
  · right
    refine ⟨n.natAbs, by omega, by omega, ?_⟩
    have e : n = -(((n.natAbs - 1) + 1 : Nat) : Int) := by omega
    have e2 : n.natAbs = n.natAbs - 1 + 1 := by omega
    rw [show cs (numS n) = cs (numS (-(((n.natAbs - 1) + 1 : Nat) : Int))) by rw [← e], cs_neg, ← e2]
  · left
    obtain ⟨m, rfl⟩ := Int.eq_ofNat_of_zero_le h
    exact ⟨m, rfl, cs_num m⟩
theorem num_signs (n : Int) : ∀ c ∈ cs (numS n), c = 45 ∨ (48 ≤ c ∧ c ≤ 57) := by
  intro c hc
  rcases num_cases n with ⟨m, _, e⟩ | ⟨m, _, _, e⟩
  · rw [e] at hc
    exact .inr (figs_digits m c hc)
  · rw [e] at hc
    rcases List.mem_cons.mp hc with z | z
    · exact .inl z
    · exact .inr (figs_digits m c z)
end L2

end
section
set_option Elab.async false
set_option linter.all false
set_option maxRecDepth 100000
set_option maxHeartbeats 4000000
namespace L2
open PySem PySem.Spec PyProof.Rows PySem.Builtin PySem.Builtin.Str PySem.NumText
/-! ### reading: a whole number, a line, a program -/
noncomputable def minus : Str := "-"
noncomputable def blank : Str := " "
noncomputable def feed : Str := "\n"
theorem minus_eq : minus = ⟨#[45]⟩ := by decide
theorem blank_eq : blank = ⟨#[32]⟩ := by decide
theorem feed_eq : feed = ⟨#[10]⟩ := by decide
noncomputable def isFig (c : Nat) : Bool := decide (48 ≤ c) && decide (c ≤ 57)
/-- the figures -/
noncomputable def figT (z : Str) : List Nat := if (cs z).head? = some 45 then (cs z).drop 1 else cs z
noncomputable def wholeP (most : Nat) (z : Str) : Option Int :=
  if (1 ≤ (figT z).length ∧ (figT z).length ≤ most) ∧ (figT z).all isFig = true then (if (figT z).head? = some 48 ∧ cs z ≠ [48] then none else intText? z) else none
theorem starts_minus (z : Str) : Txt.startswith z minus = decide ((cs z).head? = some 45) := by
  rw [Bool.eq_iff_iff, minus_eq]
  unfold Txt.startswith
  rw [Bool.and_eq_true, decide_eq_true_eq, decide_eq_true_eq]
  have := StrLaws.subAt_one z 45 0
  rw [List.head?_eq_getElem?]
  exact this
theorem slice1 (z : Str) (h : 1 ≤ z.length) : cs (Txt.slice z (some 1) none) = (cs z).drop 1 := by
  rw [slice_from_eq (b := z.length) (by decide) (by omega) rfl]
  show ((z.cps.toList.drop 1).take ((z.length : Int) - 1).toNat) = _
  rw [List.take_of_length_le]
  rw [List.length_drop]
  have : z.cps.toList.length = z.length := cs_len z
  omega
theorem isFig_of {c : Nat} : isFig c = true ↔ 48 ≤ c ∧ c ≤ 57 := by simp [isFig]
theorem allFig {l : List Nat} : l.all isFig = true ↔ AllDigits l := by
  rw [List.all_eq_true]
  exact ⟨fun h c hc => isFig_of.mp (h c hc), fun h c hc => isFig_of.mpr (h c hc)⟩
/-- what is written in figures is read -/
theorem whole_some {most : Nat} {z : Str} (hm : most ≤ 600) (h1 : 1 ≤ (figT z).length ∧ (figT z).length ≤ most) (h2 : (figT z).all isFig = true) : z.length ≤ 601 ∧ ∃ n, intText? z = some n := by
  have hl := cs_len z
  have hd := allFig.mp h2
  unfold figT at h1 hd
  split at h1
  · next e =>
    rw [if_pos e] at hd
    cases ez : cs z with
    | nil => rw [ez] at e; cases e
    | cons c r =>
      rw [ez] at e h1 hd hl
      cases e
      have hr : (List.drop 1 (45 :: r)) = r := rfl
      rw [hr] at h1 hd
      simp only [List.length_cons] at hl
      exact ⟨by omega, _, intText_neg ez hd (fun z => by rw [z] at h1; exact absurd h1.1 (by decide)) (by omega)⟩
  · next e =>
    rw [if_neg e] at hd
    exact ⟨by omega, _, intText_digits hd (fun z => by rw [show cs _ = [] from z] at h1; exact absurd h1.1 (by decide)) (by omega)⟩
theorem fig_num (n : Int) : ∃ m : Nat, n.natAbs = m ∧ figT (numS n) = figs m := by
  rcases num_cases n with ⟨m, rfl, e⟩ | ⟨m, hm, rfl, e⟩
  · refine ⟨m, by omega, ?_⟩
    unfold figT
    rw [e]
    obtain ⟨c, r, ec⟩ : ∃ c r, figs m = c :: r := by
      cases h : figs m with
      | nil => exact absurd h (figs_ne m)
      | cons c r => exact ⟨c, r, rfl⟩
    rw [if_neg]
    intro z
    have hc := figs_digits m c (by rw [ec]; exact List.mem_cons_self)
    rw [ec] at z
    cases z
    omega
  · refine ⟨m, by omega, ?_⟩
    unfold figT
    rw [e]
    rfl
/-- what is read is shown as it was -/
theorem mapM_some {α β : Type} {f : α → Option β} : ∀ {l : List α} {r : List β}, l.mapM f = some r → l.length = r.length ∧ ∀ (i : Nat) a, l[i]? = some a → ∃ b, r[i]? = some b ∧ f a = some b := by
  intro l
  induction l with
  | nil =>
    intro r h
    cases h
    exact ⟨rfl, fun i a e => by cases e⟩
  | cons x l ih =>
    intro r h
    rw [List.mapM_cons] at h
    cases ex : f x with
    | none => rw [ex] at h; cases h
    | some y =>
      rw [ex] at h
      cases el : l.mapM f with
      | none => rw [el] at h; cases h
      | some ys =>
        rw [el] at h
        cases h
        obtain ⟨h1, h2⟩ := ih el
        refine ⟨by simp [h1], fun i a e => ?_⟩
        cases i with
        | zero => cases e; exact ⟨y, rfl, ex⟩
        | succ i => exact h2 i a e
/-! ### rows -/
/-! ### and shown -/
noncomputable def rowT (w : Str) (ns : List Int) : Str := Str.join blank (w :: ns.map numS)
noncomputable def intD : D → List Int
  | .int n => [n]
  | _ => []
noncomputable def numD : D → List Int
  | .int n => [n]
  | .tup ds => ds.flatMap intD
  | _ => []
theorem nums_ints : ∀ (ns : List Int), (ns.map D.int).flatMap numD = ns
  | [] => rfl
  | n :: ns => by
    rw [List.map_cons, List.flatMap_cons, nums_ints ns]
    rfl
theorem nums_ints' : ∀ (ns : List Int), (ns.map D.int).flatMap intD = ns
  | [] => rfl
  | n :: ns => by
    rw [List.map_cons, List.flatMap_cons, nums_ints' ns]
    rfl
theorem num_free (n : Int) : 32 ∉ cs (numS n) ∧ 10 ∉ cs (numS n) := ⟨fun h => by have := num_signs n _ h; omega, fun h => by have := num_signs n _ h; omega⟩
theorem jn_free {c d : Nat} (hcd : c ≠ d) : ∀ {ps : List (List Nat)}, (∀ p ∈ ps, c ∉ p) → c ∉ jn d ps
  | [], _ => List.not_mem_nil
  | [x], h => h x List.mem_cons_self
  | x :: y :: r, h => by
    show c ∉ x ++ d :: jn d (y :: r)
    intro z
    rcases List.mem_append.mp z with z | z
    · exact h x List.mem_cons_self z
    · rcases List.mem_cons.mp z with z | z
      · exact hcd z
      · exact jn_free hcd (fun p hp => h p (List.mem_cons_of_mem _ hp)) z
end L2

end
section
set_option Elab.async false
set_option linter.all false
set_option maxRecDepth 100000
set_option maxHeartbeats 4000000
namespace L2
open PySem PySem.Spec PyProof.Rows PySem.Builtin PySem.Builtin.Str PySem.NumText
/-! ### what is read is shown as it was -/
theorem val_snoc (l : List Nat) (c : Nat) : digitsVal (l ++ [c]) = digitsVal l * 10 + (c - 48) := by
  unfold digitsVal
  rw [List.foldl_append]
  rfl
theorem all_front {l : List Nat} {c : Nat} (h : AllDigits (l ++ [c])) : AllDigits l ∧ 48 ≤ c ∧ c ≤ 57 := ⟨fun x hx => h x (List.mem_append_left _ hx), h c (List.mem_append_right _ List.mem_cons_self)⟩
theorem val_lt : ∀ (k : Nat) (l : List Nat), l.length = k → AllDigits l → digitsVal l < 10 ^ k := by
  intro k
  induction k with
  | zero =>
    intro l hl _
    rw [List.eq_nil_of_length_eq_zero hl]
    decide
  | succ k ih =>
    intro l hl h
    have hne : l ≠ [] := fun e => by rw [e] at hl; cases hl
    obtain ⟨a, c, rfl⟩ : ∃ a c, l = a ++ [c] := ⟨_, _, (List.dropLast_concat_getLast hne).symm⟩
    obtain ⟨ha, hc⟩ := all_front h
    have := ih a (by simpa using hl) ha
    rw [val_snoc, Nat.pow_succ]
    omega
theorem figs_back : ∀ (k : Nat) (l : List Nat), l.length = k → AllDigits l → l ≠ [] → (l.head? ≠ some 48 ∨ l = [48]) → figs (digitsVal l) = l := by
  intro k
  induction k with
  | zero => intro l hl _ hne _; exact absurd (List.eq_nil_of_length_eq_zero hl) hne
  | succ k ih =>
    intro l hl h hne hh
    obtain ⟨a, c, rfl⟩ : ∃ a c, l = a ++ [c] := ⟨_, _, (List.dropLast_concat_getLast hne).symm⟩
    obtain ⟨ha, hc⟩ := all_front h
    rw [val_snoc]
    by_cases e : a = []
    · subst e
      rw [show digitsVal [] * 10 + (c - 48) = c - 48 by show 0 * 10 + _ = _; omega, figs_one _ (by omega)]
      show [48 + (c - 48)] = [c]
      rw [Nat.add_sub_cancel' hc.1]
    · have hd : a.head? ≠ some 48 := by
        rcases hh with hh | hh
        · cases a with
          | nil => exact absurd rfl e
          | cons x r => exact hh
        · have h3 : a.length + [c].length = [48].length := by rw [← List.length_append, hh]
          simp only [List.length_cons, List.length_nil] at h3
          have := List.length_pos_iff.mpr e
          omega
      have q := ih a (by simpa using hl) ha e (.inl hd)
      have pos : 0 < digitsVal a := by
        rcases Nat.eq_zero_or_pos (digitsVal a) with z | z
        · rw [z] at q
          exact absurd (show a.head? = some 48 by rw [← q]; decide) hd
        · exact z
      rw [figs_big (by omega), show (digitsVal a * 10 + (c - 48)) / 10 = digitsVal a by omega, show (digitsVal a * 10 + (c - 48)) % 10 = c - 48 by omega, q, figs_one _ (by omega), Nat.add_sub_cancel' hc.1]
end L2

end
section
set_option Elab.async false
set_option linter.all false
set_option maxRecDepth 100000
set_option maxHeartbeats 4000000
namespace L2
open PySem PySem.Spec PyProof.Rows
/-! ### exceptions of one own class, at C -/
/-- on its way out of the frames that ran above outer: it touched nothing of B -/
noncomputable def Fly (P : Program) (w : World) (C : Addr) : CXT := fun outer H s E e s' =>
  ∃ a H' B t, e = .ref a ∧ s'.os = s.os ∧ AllBare s'.gens ∧ Un (frs outer) [] H H' s.heap s'.heap ∧ HOk P w H' s'.heap ∧ Heap.FlyingW B outer a (.ref C) (.ref t) s'.heap ∧
    (∀ b o, (H' b ≠ none ∨ (s.heap.get? b ≠ none ∧ b ∉ frs outer)) → s'.heap.get? b = some o → B.get? b = some o) ∧ E (.ref C) none H'
section
variable {P : Program} {w : World} {K : PySem.W.Frag} {mg : Str → Option Value} {base : Heap} {C : Addr}
/-- behind a step that kept B -/
theorem _root_.L2.HOk.over {H : Hp} {h h' B : Heap} (ok : HOk P w H h) (kB : ∀ b o, H b ≠ none → h.get? b = some o → B.get? b = some o) (st : B.StaysIn h') : HOk P w H h' := fun b u e =>
  (ok b u e).stay (fun c v hc q => st _ _ (kB c v (by rcases hc with rfl | hc
                                                      · rw [e]; exact fun z => by cases z
                                                      · rw [hc]; exact fun z => by cases z) q)) (fun _ q => q) (fun _ _ q => q)
theorem ObjOk.has {H : Hp} {h : Heap} {a : Addr} {o : HO} (x : ObjOk P w H h a o) : ∃ u, h.get? a = some u := by
  cases o with
  | lst xs => obtain ⟨_, _, _, _, e⟩ := x; exact ⟨_, e⟩
  | tup xs => obtain ⟨_, _, _, ob, e, _⟩ := x; exact ⟨_, e⟩
  | dK kvs => obtain ⟨_, _, _, _, ob, _, _, e, _⟩ := x; exact ⟨_, e⟩
  | dT kvs => obtain ⟨_, _, _, _, ob, _, _, e, _⟩ := x; exact ⟨_, e⟩
  | set S n => obtain ⟨ob, _, _, _, e, _⟩ := x; exact ⟨_, e⟩
  | ins C dx fs => obtain ⟨_, _, _, e, _⟩ := x; exact ⟨_, e⟩
  | own x' => exact x
  | xd fs => obtain ⟨_, ⟨_, _, _, e, _⟩, _⟩ := x; exact ⟨_, e⟩
  | rng lo hi => obtain ⟨_, _, _, e⟩ := x; exact ⟨_, e⟩
  | frz o u => exact ⟨_, x.1⟩
  | tbl ps => exact ⟨_, x⟩
  | met f x' => exact ⟨_, x⟩
  | ext φ => exact x.2.1
section
variable {N : List Str} {qual : Str} {scope : Scope} {f : Addr} {cd : Value} {A : Around} {outer : List Env} {s : Shared} {H : Hp} {E : XK} {pins : List (Addr × Obj)} {σ : St} {H1 : Hp} {s1 : Shared}
/-- behind the frame -/
theorem out_of {h' B : Heap} {a t : Addr} (I : Inv (cxOf (Fly P w C) P w K mg base N qual scope f cd A outer s H E) pins σ H1 s1) (kB : ∀ b o, (H1 b ≠ none ∨ (s.heap.get? b ≠ none ∧ b ∉ frs outer)) → s1.heap.get? b = some o → B.get? b = some o)
    (fl : Heap.FlyingW B outer a (.ref C) (.ref t) h') (up : s1.heap.UpToSlots h') (e : E (.ref C) none H1) : Fly P w C outer H s E (.ref a) { s1 with heap := h' } := by
  have hu : Un (frs outer) [] H H1 s.heap s1.heap := I.base
  have hfr : ∀ b ∈ frs outer, ∃ o, s1.heap.get? b = some o ∧ ∀ vs, o.data ≠ .fields vs := fun b hb => (I.stack.mem (show b ∈ (envOfC qual scope s.heap.objs.size f cd :: outer).filterMap (·.frame) from List.mem_cons_of_mem _ hb)).2
  have old : ∀ b o, s.heap.get? b = some o → ∃ o', s1.heap.get? b = some o' := fun b o hb => hu.there b o hb (by simp)
  refine ⟨a, H1, B, t, rfl, I.os, I.bare, ⟨fun b o hb hn hf hx => ?_, fun b o hb hn hf hx => ?_, hu.free, fun b o hb hx => ?_, hu.tups, hu.frzs, hu.tbls⟩, I.hok.over (fun b o hb => kB b o (.inl hb)) fl.1, fl, fun b o hb e' => ?_, e⟩
  · exact fl.1 b o (kB b o (.inr ⟨(by rw [hb]; exact fun z => (by cases z)), hf⟩) (hu.keep b o hb hn hf hx))
  · obtain ⟨sl, q⟩ := hu.slot b o hb hn hf hx
    obtain ⟨o', q', nf⟩ := hfr b hf
    rw [q] at q'
    cases q'
    obtain ⟨sl2, q2⟩ := up b _ q nf
    exact ⟨sl2, q2⟩
  · obtain ⟨o', q⟩ := old b o hb
    by_cases hf : b ∈ frs outer
    · obtain ⟨o2, q2, nf⟩ := hfr b hf
      obtain ⟨sl, q3⟩ := up b o2 q2 nf
      exact ⟨_, q3⟩
    · exact ⟨o', fl.1 b o' (kB b o' (.inr ⟨(by rw [hb]; exact fun z => (by cases z)), hf⟩) q)⟩
  · have : ∃ o1, s1.heap.get? b = some o1 := by
      rcases hb with hb | ⟨hb, _⟩
      · cases q : H1 b with
        | none => exact absurd q hb
        | some u => exact ObjOk.has (I.hok b u q)
      · cases q : s.heap.get? b with
        | none => exact absurd q hb
        | some u => exact old b u q
    obtain ⟨o1, q1⟩ := this
    have h1 := kB b o1 hb q1
    have h2 := fl.1 b o1 h1
    rw [e'] at h2
    cases h2
    exact h1
theorem own_frame {b : Addr} (h : s.heap.get? b ≠ none) (n : b ∉ frs outer) : b ∉ frs (envOfC qual scope s.heap.objs.size f cd :: outer) := fun m => by
  rcases List.mem_cons.mp (show b ∈ s.heap.objs.size :: frs outer from m) with e | m
  · cases q : s.heap.get? b with
    | none => exact h q
    | some o => exact absurd (Heap.lt_size q) (by rw [e]; exact Nat.lt_irrefl _)
  · exact n m
/-- it is raised here -/
theorem raise_out {h1 : Heap} {e : Addr} {vs : List Value} (I : Inv (cxOf (Fly P w C) P w K mg base N qual scope f cd A outer s H E) pins σ H1 s1) (hx : Heap.MadeExcOf s1.heap h1 e (.ref C) vs) (he : E (.ref C) none H1) :
    (cxOf (Fly P w C) P w K mg base N qual scope f cd A outer s H E).xe (.ref e) { s1 with heap := h1 } := by
  have I2 : Inv (cxOf (Fly P w C) P w K mg base N qual scope f cd A outer s H E) pins σ H1 { s1 with heap := h1 } := I.kept (h' := h1) (t' := s1.toks) hx.keeps
  have hin : ∀ env ∈ (envOfC qual scope s.heap.objs.size f cd :: outer), ∀ b, env.frame = some b → b ∈ frs (envOfC qual scope s.heap.objs.size f cd :: outer) := fun env hm b hb => List.mem_filterMap.mpr ⟨env, hm, hb⟩
  refine wpAny_leaves_madeW (base := PySem.W.hideAll s1.heap (frs (envOfC qual scope s.heap.objs.size f cd :: outer))) (h := s1.heap) I.ok.frames rfl (fun b o q => PySem.W.of_hideAll _ q) (PySem.W.funFrames_hide I.stack hin) hx fun h' t fl _ _ up => ?_
  refine out_of I2 (fun b o hb q => ?_) fl up he
  have q1 : ∃ o1, s1.heap.get? b = some o1 := by
    rcases hb with hb | ⟨hb, _⟩
    · cases z : H1 b with
      | none => exact absurd z hb
      | some u => exact ObjOk.has (I.hok b u z)
    · cases z : s.heap.get? b with
      | none => exact absurd z hb
      | some u => exact I.base.there b u z (show b ∉ ([] : List Addr) by simp)
  obtain ⟨o1, q1⟩ := q1
  have q2 := hx.keeps b o1 q1
  rw [show h1.get? b = some o from q] at q2
  cases q2
  refine PySem.W.hideAll_get _ q1 ?_
  rcases hb with hb | ⟨hb, hn⟩
  · exact fun m => hb (I.stkFree b m)
  · exact own_frame hb hn
/-- a callee's passes through -/
theorem pass_out : Passes (Fly P w C) (cxOf (Fly P w C) P w K mg base N qual scope f cd A outer s H E) E := by
  intro pins σ H1 s1 e s2 I h
  obtain ⟨a, H2, B, t, rfl, os, bare, un, hok, fl, kB, he⟩ := h
  have I2 := I.call' (ch := []) os un hok bare (fun b z => absurd z (by simp))
  refine wpAny_leaves_onW I.ok.frames rfl fl fun h' fl' up => out_of I2 (fun b o hb q => kB b o ?_ q) fl' up he
  rcases hb with hb | ⟨hb, hn⟩
  · exact .inl hb
  · refine .inr ⟨?_, own_frame hb hn⟩
    cases z : s.heap.get? b with
    | none => exact absurd z hb
    | some u =>
      obtain ⟨o', q'⟩ := I.base.there b u z (show b ∉ ([] : List Addr) by simp)
      rw [q']
      exact fun z => by cases z
/-- an own class over ValueError, maybe by way of other own ones -/
noncomputable def bmVE : List Value := [.type "ValueError", .type "Exception", .type "BaseException", .type "object"]
noncomputable def ExcC (K : PySem.W.Frag) (C : Addr) : Prop := PySem.W.excIn K C bmVE "ValueError.__new__" = true
theorem exc_obj {h : Heap} (X : K.In h) (q : ExcC K C) : ∃ Nn nm qn bs bm hdct sn sub ab col dd k0 k1 k2 k3 k5, h.get? C = some (excClassObj nm qn C Nn bs bm hdct sn sub ab col dd k0 k1 k2 k3 k5 "ValueError.__new__") ∧
    h.Ns Nn (h.nsMap Nn) ∧ h.nsMap Nn "__init__" = none ∧ OwnTail h bmVE bm := by
  revert q
  unfold ExcC PySem.W.excIn
  split
  · next dd c9 slots look =>
    split
    · next C' tl s0 s1 s2 s3 nid s5 em es =>
      intro q
      rw [Bool.and_eq_true, Bool.and_eq_true, Bool.and_eq_true, Bool.and_eq_true, Bool.and_eq_true] at q
      obtain ⟨⟨⟨⟨⟨q1, q2⟩, q3⟩, q4⟩, q5⟩, q6⟩ := q
      have q1 := beq_iff_eq.mp q1
      have q2 := beq_iff_eq.mp q2
      subst q1 q2
      cases c9
      dsimp only at em q3 q5 q6
      rw [Bool.not_eq_true'] at q3
      subst em q3
      have : slots = #[s0, s1, s2, s3, some (.builtin "ValueError.__new__"), s5] := Array.toList_inj.mp es
      subst this
      exact ⟨_, _, _, _, tl, _, _, _, _, _, dd, s0, s1, s2, s3, s5, X _ _ look, .of_isNs (PySem.W.isNs_of_in X q5), PySem.W.nsMap_none_of_in X q5 (beq_iff_eq.mp q6), PySem.W.tail_of_in X q4⟩
    · intro q; cases q
  · intro q; cases q
noncomputable def tRaise (E : XK) (C : Addr) (t : TA) : TS := fun _ σ H => t σ H fun vs H1 => vs.length ≤ 1000 ∧ E (.ref C) none H1
theorem ps_raise {x : Str} {np cpos pos : Pos} {e₀ : Expr} {rest : List Expr} {t : TA} (hg : Gl (cxOf (Fly P w C) P w K mg base N qual scope f cd A outer s H E) x) (hm : mg x = some (.ref C)) (XC : ExcC K C) (ha : PA (cxOf (Fly P w C) P w K mg base N qual scope f cd A outer s H E) (e₀ :: rest) t)
    (hst : starEach (e₀ :: rest) (envOfC qual scope s.heap.objs.size f cd) = (false, eval e₀ (envOfC qual scope s.heap.objs.size f cd)) :: starEach rest (envOfC qual scope s.heap.objs.size f cd) := by rfl)
    (hpl : (backTo cpos (starEach rest (envOfC qual scope s.heap.objs.size f cd))).any (·.1) = false := by rfl) (hd : (x == ("__debug__" : Str)) = false := by decide) :
    PS (cxOf (Fly P w C) P w K mg base N qual scope f cd A outer s H E) (.Raise (some (.Call (.Name x np) (e₀ :: rest) [] cpos)) none pos) (tRaise E C t) := by
  intro pins s1 σ H1 D I h
  have kin : K.In base := I.ok.mod.kin
  obtain ⟨Nn, nm, q, bs, bm, hdct, sn, sub, ab, col, dd, k0, k1, k2, k3, k5, hC, hns, hnone, tl⟩ := exc_obj kin XC
  refine wpAny_Raise_call_subU (C := C) (nm := nm) (q := q) (N := Nn) (bs := bs) (bm := bm) (hdct := hdct) (sn := sn) (sub := sub) (ab := ab) (col := col) (dd := dd) (k0 := k0) (k1 := k1) (k2 := k2) (k3 := k3) (k5 := k5) (mN := base.nsMap Nn)
    F.excBase_ValueError (bmB := bmVE) (by decide) F.excBase_ValueError (tl.hasType (by decide)) (I.ok.hd rfl) ?_ hnone (ld_glob I hg hm ⟨rfl, ?_⟩ hd)
  · show (backTo cpos (starEach (e₀ :: rest) (envOfC qual scope s.heap.objs.size f cd))).any (·.1) = false
    rw [hst]
    show (false || (backTo cpos (starEach rest (envOfC qual scope s.heap.objs.size f cd))).any (·.1)) = false
    rw [hpl]
    rfl
  · show wpAny _ _ (evalArgs (.ref C) true (backTo cpos (starEach (e₀ :: rest) (envOfC qual scope s.heap.objs.size f cd))) []) _ _ _
    have h2 := ha cpos pins s1 σ H1 _ I h
    change wpAny _ _ (spliced (backTo cpos (starEach (e₀ :: rest) (envOfC qual scope s.heap.objs.size f cd)))) _ _ _ at h2
    rw [hst] at h2 ⊢
    refine Calls.evalArgs_plain (thn h2 fun us s2 h3 => ?_)
    obtain ⟨vs, H2, I2, rv, hl, he⟩ := h3
    have kb : ∀ b o, base.get? b = some o → s2.heap.get? b = some o := I2.bk
    exact ⟨rfl, by rw [← rv.length]; exact Nat.le_trans hl (by decide), kb _ _ hC, hns.keeps kb, tl.keeps kb, fun h' e hx => raise_out I2 hx he⟩
end
end
end L2

end
section
set_option Elab.async false
set_option linter.all false
set_option maxRecDepth 100000
set_option maxHeartbeats 4000000
namespace L2
open PySem PySem.Spec PyProof.Rows
section
variable {X : Cx} {C : Addr} {pins : List (Addr × Obj)} {σ : St} {H H' : Hp} {s s' : Shared}
/-- behind a callee's exception, and what was done with it since -/
theorem Inv.land {B h2 : Heap} (I : Inv X pins σ H s) (os : s'.os = s.os) (bare : AllBare s'.gens) (un : Un (frs X.stack) [] H H' s.heap s'.heap) (hok : HOk X.prog X.w H' s'.heap)
    (kB : ∀ b o, (H' b ≠ none ∨ (s.heap.get? b ≠ none ∧ b ∉ frs X.stack)) → s'.heap.get? b = some o → B.get? b = some o) (st : B.StaysIn h2) (up : s'.heap.UpToSlots h2) : Inv X pins σ H' { s' with heap := h2 } := by
  have I2 := I.call' (ch := []) os un hok bare (fun b z => absurd z (by simp))
  have hfr : ∀ b ∈ frs X.stack, ∃ o, s'.heap.get? b = some o ∧ ∀ vs, o.data ≠ .fields vs := fun b hb => (I2.stack.mem hb).2
  refine I.call' (s' := { s' with heap := h2 }) (ch := []) os ⟨fun b o hb hn hf hx => ?_, fun b o hb hn hf hx => ?_, un.free, fun b o hb hx => ?_, un.tups, un.frzs, un.tbls⟩ (hok.over (fun b o hb => kB b o (.inl hb)) st) bare (fun b z => absurd z (by simp))
  · exact st b o (kB b o (.inr ⟨(by rw [hb]; exact fun z => (by cases z)), hf⟩) (un.keep b o hb hn hf hx))
  · obtain ⟨sl, q⟩ := un.slot b o hb hn hf hx
    obtain ⟨o', q', nf⟩ := hfr b hf
    rw [q] at q'
    cases q'
    obtain ⟨sl2, q2⟩ := up b _ q nf
    exact ⟨sl2, q2⟩
  · obtain ⟨o', q⟩ := un.there b o hb hx
    by_cases hf : b ∈ frs X.stack
    · obtain ⟨o2, q2, nf⟩ := hfr b hf
      obtain ⟨sl, q3⟩ := up b o2 q2 nf
      exact ⟨_, q3⟩
    · exact ⟨o', st b o' (kB b o' (.inr ⟨(by rw [hb]; exact fun z => (by cases z)), hf⟩) q)⟩
/-- a name that goes -/
theorem Inv.unbound {j t : Nat} {n : Str} {h2 : Heap} {m : Str → Option Value} {v : Option Value} (I : Inv X pins σ H s) (hN : X.N.Nodup) (hj : X.N[j]? = some n) (hn : s.heap.Ns X.env.locals m) (hl : ∀ (i : Nat) (x : Str) (v : V), X.N[i]? = some x → σ[i]? = some (some v) → Vis X.env.scope x → ∃ u, RelV v u ∧ Look X.env s.heap m x u)
    (hn' : h2.Ns X.env.locals (fun x => if x = n then v else m x)) (hs : Heap.SameBut X.env.locals s.heap h2) : Inv X pins (σ.set j none) H { s with heap := h2, toks := t } := by
  obtain ⟨oL, _, _, hoL, _⟩ := id hn
  have cne := I.cne
  have hjσ : j < σ.length := by rw [I.len]; exact (List.getElem?_eq_some_iff.mp hj).1
  have far : ∀ {b : Addr} {o : Obj}, X.s₀.heap.get? b = some o → b ≠ X.env.locals := fun e => Nat.ne_of_lt (Nat.lt_of_lt_of_le (Heap.lt_size e) I.ok.above)
  refine ⟨I.ok, I.os, I.bare, ⟨fun b o e n hb hx => ?_, fun b o e n hb hx => ?_, I.base.free, fun b o e hx => ?_, I.base.tups, I.base.frzs, I.base.tbls⟩, ⟨_, hn', fun i y v' e1 e2 e3 => ?_⟩, fun y c e => ?_, I.free, I.freeC, fun p hp => ?_, fun b ob e => ?_, by simpa using I.len⟩
  · exact (hs.2 b (far e)).trans (I.base.keep b o e n hb hx)
  · obtain ⟨sl, e1⟩ := I.base.slot b o e n hb hx
    exact ⟨sl, (hs.2 b (far e)).trans e1⟩
  · obtain ⟨o', e1⟩ := I.base.there b o e hx
    exact ⟨o', (hs.2 b (far e)).trans e1⟩
  · by_cases hi : i = j
    · subst hi
      rw [List.getElem?_set_self hjσ] at e2
      cases e2
    · rw [List.getElem?_set_ne (Ne.symm hi)] at e2
      obtain ⟨u', r', q⟩ := hl i y v' e1 e2 e3
      refine ⟨u', r', ?_⟩
      rcases q with ⟨k, e⟩ | ⟨k, c, e, z⟩
      · refine .inl ⟨k, ?_⟩
        have : y ≠ n := fun e => hi (nodup_ix hN e1 (e ▸ hj))
        simp [this, e]
      · exact .inr ⟨k, c, e, z.sameBut hs (cne y c e)⟩
  · obtain ⟨w', z⟩ := I.cell y c e
    exact ⟨w', z.sameBut hs (cne y c e)⟩
  · obtain ⟨e, n, ne, nf, d⟩ := I.pin p hp
    exact ⟨(hs.2 p.1 ne).trans e, n, ne, nf, d⟩
  · refine (I.hok b ob e).stay (fun c w' hc q => (hs.2 c ?_).trans q) (fun _ q => q) fun _ _ q => q
    rintro rfl
    rcases hc with rfl | hc
    · rw [I.free] at e; cases e
    · rw [I.free] at hc; cases hc
/-- within the suite of an except: the exception a is held there -/
noncomputable def Cx.held (X : Cx) (a : Addr) (oe : Obj) : Cx := { X with A := X.A.mark (some (.ref a)), calm := false, pn := (a, oe) :: X.pn, xe := fun _ _ => False }
theorem Inv.held {a : Addr} {oe : Obj} (I : Inv X pins σ H s) (e : s.heap.get? a = some oe) (n : H a = none) (nl : a ≠ X.env.locals) (nf : a ∉ X.fs) (nc : ∀ v, oe.data ≠ .cell v) : Inv (X.held a oe) pins σ H s :=
  ⟨⟨I.ok.mod, I.ok.kind, I.ok.glob, I.ok.blt, I.ok.above, I.ok.inj, I.ok.has, I.ok.cab, fun z => (by cases z), I.ok.frames, I.ok.stk, I.ok.exf, I.ok.bs, I.ok.bsz, I.ok.noex, I.ok.exfs, I.ok.funs, I.ok.frf⟩, I.os, I.bare, I.base, I.loc, I.cell, I.free, I.freeC,
    fun p hp => by
      rcases List.mem_cons.mp (show p ∈ (a, oe) :: (X.pn ++ pins) from hp) with rfl | hp
      · exact ⟨e, n, nl, nf, nc⟩
      · exact I.pin p hp, I.hok, I.len⟩
theorem Inv.unheld {a : Addr} {oe : Obj} (ok : X.Ok) (I : Inv (X.held a oe) pins σ H s) : Inv X pins σ H s :=
  ⟨ok, I.os, I.bare, I.base, I.loc, I.cell, I.free, I.freeC, fun p hp => I.pin p (List.mem_cons_of_mem _ hp), I.hok, I.len⟩
/-- try: x = f(..), except L as n: the suite -/
noncomputable def tTryX (i j : Nat) (sp : Sp) (ta : TA) (th : Addr → TS) : TS := fun D σ H => ta σ H fun vs H1 => sp vs H1 (fun v H2 => D.nx (σ.set i (some v)) H2)
  (fun _ _ H2 => ∀ a, H2 a = none → th a { nx := fun σ' H3 => D.nx (σ'.set j none) H3, rt := fun _ _ => False } (σ.set j (some (.ref a))) H2)
theorem ty_exc {M : Model} {h : Heap} {a : Addr} {ob : Obj} {c : Value} (e : h.get? a = some ob) (hc : ob.cls = c) : PySem.W.Looks M h (typeOf (.ref a)) c := by
  subst hc
  exact (PySem.W.Looks.ld e).andThen .now
theorem ps_tryX {i j k : Nat} {f L : Addr} {fd : FuncData} {ps : List Str} {sp : Sp} {fn x lx n : Str} {px p1 p2 p3 np hp pos : Pos} {e1 : Expr} {es : List Expr} {ta : TA} {th : Addr → TS} {b0 : Stmt} {suite : List Stmt}
    (hst : X.stack = X.env :: X.outer) (hfm : X.env.frame = some X.env.locals) (hN : X.N.Nodup) (hi : X.N[i]? = some x) (hx : Loc X.env.scope x) (hf : X.fn x = true ∨ X.env.scope.names.lookup x = some .local) (hj : X.N[j]? = some n) (hjl : X.env.kindOf n = some .local) (hjs : X.env.scope.names.lookup n = some .local)
    (F : FnOk X.prog X.w X.K X.mg X.base (Fly X.prog X.w C) k f fd ps sp) (hr : Room k X.A) (hg : Gl X fn) (hm : X.mg fn = some (.ref f)) (hk : PySem.W.keepIn X.K (.ref f) = true) (hb : Binds X.K fd ps []) (ha : PA X.nox (e1 :: es) ta)
    (hl : Gl X lx) (hlm : X.mg lx = some (.ref L)) (hex : PySem.W.exmOne X.K (.ref C) (.ref L) = some true)
    (hs : ∀ (a : Addr) (oe : Obj), oe.cls = .ref C → (∃ vs, oe.data = .fields vs) → PSs (X.held a oe) (b0 :: suite) (th a))
    (hsw : swapsWith (.Call (.Name fn p1) (e1 :: es) [] p2) (some (.Name x px)) p3.line X.env = pure false := by rfl)
    (hd : (fn == ("__debug__" : Str)) = false := by decide) (hd2 : (lx == ("__debug__" : Str)) = false := by decide) (he : starEach (e1 :: es) X.env = (false, eval e1 X.env) :: starEach es X.env := by rfl) (hpl : (backTo p2 (starEach es X.env)).any (·.1) = false := by rfl) :
    PS X (.Try [.Assign [.Name x px] (.Call (.Name fn p1) (e1 :: es) [] p2) p3] [.ExceptHandler (some (.Name lx np)) (some n) (b0 :: suite) hp] [] [] pos) (tTryX i j sp ta th) := by
  intro pins s σ H D I h
  refine wpAny_Try_except (wpAny_execs_cons (wpAny_Assign_Name (wpAny_Call_Name_kw (ld_glob I hg hm ?_ hd)) hsw))
  refine PySem.W.callWith_K (h₀ := X.base) I.ok.mod.kin hk ?_ he hpl
  refine wpAny_mono (ha p2 pins s σ H _ (I.wish _) h) (fun us s1 q => ?_) (fun _ _ z => False.elim z)
  obtain ⟨vs, H1, I1, rv, q1⟩ := q
  have I1 := I1.unwish
  refine ⟨I1.kIn, ?_⟩
  have hlen : (us ++ []).length = ps.length := by rw [List.append_nil, ← rv.length]; exact F.len _ _ _ _ q1
  have hb1 := hb s1 us I1.kIn hlen
  rw [List.append_nil] at hb1
  refine wpAny_call (codeAny_mono (F.run X.A X.stack s1 H1 ⟨us, []⟩ us vs _ _ hr I1.env0 hb1 rv q1) fun r s2 hq => ?_)
  cases r with
  | ok fl =>
    cases fl with
    | ret u =>
      obtain ⟨v, H2, I2, rv2, q2⟩ := I1.after hq
      exact store_ok I2 hN hi hx rv2 (fun s3 I3 => wpAny_execs_nil (wpAny_execs_nil ⟨_, H2, I3, q2⟩)) hf
    | next => exact False.elim hq
    | brk => exact False.elim hq
    | cont => exact False.elim hq
  | error e =>
    obtain ⟨a, H2, B, t, rfl, os, bare, un, hok, fl, kB, hw⟩ := hq
    rw [hst] at fl
    have hfr : X.A.frames = some (X.env :: X.outer) := by rw [← hst]; exact I.ok.frames
    refine wpAny_looks_onW hfr hfm fl fun h4 held4 up4 => ?_
    refine wpAny_landsW held4 fun h5 fl5 up5 => ?_
    have I5 := I1.land os bare un hok kB fl5.1 (up4.trans up5)
    have hH2 : H2 a = none := by
      cases z : H2 a with
      | none => rfl
      | some u =>
        obtain ⟨o, ho⟩ := ObjOk.has (hok a u z)
        have := kB a o (.inl (by rw [z]; exact fun y => (by cases y))) ho
        rw [fl.2.1] at this
        cases this
    have nfr : ∀ {h6 : Heap} {pn : List (Addr × Obj)} {σ6 : St}, Heap.FlyingW B (X.env :: X.outer) a (.ref C) (.ref t) h6 → a ≠ X.env.locals ∧ a ∉ X.fs := fun {h6 _ _} fl6 => by
      obtain ⟨oe, ws, e1, _, e2, _⟩ := fl6.first
      have : ∀ b ∈ (X.env :: X.outer).filterMap (·.frame), b ≠ a := fun b hb z => by
        obtain ⟨_, o, ho, nf⟩ := fl6.2.2.1.mem hb
        rw [z, e1] at ho
        cases ho
        exact nf ws e2
      constructor
      · exact fun z => this X.env.locals (List.mem_filterMap.mpr ⟨X.env, List.mem_cons_self, hfm⟩) z.symm
      · intro z
        obtain ⟨env, he1, he2⟩ := List.mem_filterMap.mp z
        exact this a (List.mem_filterMap.mpr ⟨env, List.mem_cons_of_mem _ he1, he2⟩) rfl
    obtain ⟨oe5, ws5, e5, c5, d5, _⟩ := fl5.first
    have I5h := I5.held e5 hH2 (nfr (pn := []) (σ6 := []) fl5).1 (nfr (pn := []) (σ6 := []) fl5).2 (fun v z => by rw [d5] at z; cases z)
    refine wpAny_handleBy_cons (codeAny_handlers_test (ld_glob (X := X.held a oe5) I5h hl hlm ?_ hd2)) (by intro q; cases q)
    refine (PySem.W.exm_one I5.kIn (ty_exc e5 c5) hex).at ?_
    refine codeAny_handlers_suite_as ?_
    refine lands_againW fl5 fun h6 fl6 up6 => ?_
    have I6 := I1.land os bare un hok kB fl6.1 ((up4.trans up5).trans up6)
    obtain ⟨oe, ws, e6, c6, d6, _⟩ := fl6.first
    have I6h := I6.held e6 hH2 (nfr (pn := []) (σ6 := []) fl6).1 (nfr (pn := []) (σ6 := []) fl6).2 (fun v z => by rw [d6] at z; cases z)
    refine store_ok (X := X.held a oe) I6h hN hj (.inl hjs) (v := .ref a) rfl (fun s7 I7 => ?_) (.inr hjs)
    refine wpAny_mono (hs a oe c6 ⟨ws, d6⟩ pins s7 _ H2 _ I7 (hw a hH2)) (fun fl s8 q => ?_) (fun _ _ z => False.elim z)
    cases fl with
    | next =>
      obtain ⟨σ', H3, I8, q8⟩ := q
      obtain ⟨m, hnm, hlk⟩ := I8.loc
      refine wpAny_nameGoes_keeps hjl hnm (by rw [I.ok.kind]; rfl) fun h9 v hn9 hs9 => ?_
      exact ⟨σ'.set j none, H3, (Inv.unheld I.ok I8).unbound hN hj hnm hlk hn9 hs9, q8⟩
    | ret u => obtain ⟨_, _, _, _, _, z⟩ := q; exact z.elim
    | brk => obtain ⟨_, _, _, z⟩ := q; exact z.elim
    | cont => obtain ⟨_, _, _, z⟩ := q; exact z.elim
end
end L2

end
section
set_option Elab.async false
set_option linter.all false
set_option maxRecDepth 100000
set_option maxHeartbeats 4000000
namespace L2
open PySem PySem.Spec PyProof.Rows PySem.W PySem.Builtin PySem.Builtin.ObjectAttr PySem.Builtin.Getset_descriptor PySem.Calls
/-- what is asked of the class of an exception that is looked at -/
structure ExcK (K : Frag) (C : Addr) : Prop where
  ga : findIn K (.ref C) "__getattribute__" = some (some (.builtin "BaseException.__getattribute__"))
  gh : findIn K (.ref C) "__getattr__" = some none
  fc : findIn K (.ref C) "__class__" = some (some (.builtin "object.__class__"))
  sg : specialIn K (.builtin "object.__class__") "__get__" = some (some (.builtin "getset_descriptor.__get__"))
  tk : takesIn K (.builtin "object.__class__") = some true
  mo : mroIn K C (.type "object") = some true
  mb : mroIn K C (.type "BaseException") = some true
  kc : kitCls K (.ref C) (.ref C) = some true
section
variable {prog : Program} {w : World} {A : Around} {E : Value → Shared → Prop} {s : Shared} {K : Frag} {a C : Addr} {oe : Obj}
theorem exc_find {M : Model} {h : Heap} (X : K.In h) (k : ExcK K C) : Looks M h (Builtin.ObjectAttr.find (.ref a) (.ref C) "__class__") (.bind (.builtin "getset_descriptor.__get__") (.builtin "object.__class__")) := by
  have q1 := looks_findIn (M := M) X k.fc
  have q2 := looks_specialIn (M := M) X k.sg
  have q3 := looks_takesIn (M := M) X k.tk
  unfold Builtin.ObjectAttr.find
  refine q1.andThen ?_
  refine Looks.andThen (a := some (Value.builtin "getset_descriptor.__get__")) (t := getOf (some (Value.builtin "object.__class__"))) ?_ ?_
  · exact q2
  refine Looks.andThen (a := some (.builtin "getset_descriptor.__get__", .builtin "object.__class__")) ?_ (Looks.tag .now)
  refine q3.andThen ?_
  exact .now
theorem exc_get {tp : Value} {R : Result → Shared → Prop} (X : K.In s.heap) (e : s.heap.get? a = some oe) (c : oe.cls = .ref C) (k : ExcK K C) (h : R (.ok (.ret (.ref C))) s) :
    codeAny (model prog w) A (.call (.builtin "getset_descriptor.__get__") ⟨[.builtin "object.__class__", .ref a, tp], []⟩) R s := by
  obtain ⟨hh, g, dr, t, os⟩ := s
  have q0 := ty_exc (M := model prog w) e c
  have q1 := looks_mroIn (M := model prog w) X k.mo
  refine codeAny_call_builtin KF.slot_gs.plain KF.entry_gs ?_
  refine KF.slot_gs.check _ _ _ _ _ _ _ _ KF.type_class (KF.args_gs _ _ _) ?_
  unfold Builtin.«getset_descriptor.__get__»
  unfold descrGet
  rw [dga_obj]
  refine wpAny_bind (wpAny_pure ?_)
  unfold descrGetter
  unfold descrCheckInstance descrNameAndClass
  unfold isInstance
  simp only [KF.owner_class]
  repeat lk
  refine ⟨Code.quiet_builtin _ (by decide +kernel), ?_⟩
  refine codeAny_builtin KF.entry_class ?_
  unfold Builtin.«object.__class__»
  unfold shownTypeOf
  repeat lk
  exact h
theorem exc_ga {tk : Tok} {Q : Value → Shared → Prop} (X : K.In s.heap) (e : s.heap.get? a = some oe) (c : oe.cls = .ref C) (k : ExcK K C) (h : Q (.ref C) s) :
    wpAny (model prog w) A (call (.builtin "BaseException.__getattribute__") [.ref a, .str "__class__" tk]) Q E s := by
  obtain ⟨hh, g, d, t, os⟩ := s
  have q0 := ty_exc (M := model prog w) e c
  have q1 := looks_mroIn (M := model prog w) X k.mb
  have q2 := exc_find (M := model prog w) (a := a) X k
  have kd : builtinKind "BaseException.__getattribute__" = some .slot := by decide +kernel
  have sd : splitId "BaseException.__getattribute__" = some ("BaseException", "__getattribute__") := by decide +kernel
  refine wpAny_call ?_
  refine codeAny_call_builtin F.attr_ValueError.ga.plain F.entry_bexc_ga ?_
  have hA := F.args_bexc_ga (.ref a) (.str "__class__" tk)
  simp only [checkBuiltinCall, kd, sd]
  refine wpAny_bind ?_
  unfold isInstance
  repeat lk
  show wpAny _ _ (run (.call (.builtin "getset_descriptor.__get__") ⟨[.builtin "object.__class__", .ref a, .ref C], []⟩) none) _ _ _
  refine wpAny_run ?_
  exact exc_get (A := A.in1) X e c k (wpAny_pure (wpAny_pure h))
/-- what its class is told to be -/
theorem exc_class {Q : Option Value → Shared → Prop} (X : K.In s.heap) (e : s.heap.get? a = some oe) (c : oe.cls = .ref C) (k : ExcK K C) (h : Q (some (.ref C)) { s with toks := s.toks + 1 }) :
    wpAny (model prog w) A (getAttr? (.ref a) "__class__") Q E s := by
  obtain ⟨hh, g, d, t, os⟩ := s
  have q0 := ty_exc (M := model prog w) e c
  have q1 := looks_findIn (M := model prog w) X k.ga
  have q2 := looks_findIn (M := model prog w) X k.gh
  unfold getAttr? getAttrBy? getAttrBy
  refine wpAny_bind (wpAny_mkText ?_)
  refine wpAny_bind (wpAny_attempt (wpAny_holding ?_))
  refine wpAny_bind (q0.at ?_)
  refine wpAny_bind (q1.at ?_)
  show wpAny _ _ (getAttrByItsOwn _ _ _ _ _ _) _ _ _
  unfold getAttrByItsOwn hookBefore
  refine wpAny_bind (q2.at ?_)
  refine wpAny_bind (wpAny_attempt (wpAny_holding ?_))
  show wpAny _ _ (boundAndCalled _ _ _) _ _ _
  unfold boundAndCalled
  refine wpAny_bind (wpAny_of_eq (F.attr_ValueError.ga.bind (.ref a)) ?_)
  refine exc_ga (s := ⟨hh, g, d, t + 1, os⟩) X e c k ?_
  exact handed_on rfl (wpAny_pure h)
theorem exc_nest {cl : Value} {b : Bool} {dep : Int} {tk : Tok} {Q : Fin → Shared → Prop} (X : K.In s.heap) (e : s.heap.get? a = some oe) (c : oe.cls = .ref C) (k : ExcK K C) (kc : kitCls K (.ref C) cl = some b) (hb : b = false → (Value.ref C == cl) = false)
    (h : ∀ t', Q (.done (.ret (.bool b))) { s with toks := t' }) : wpAny (model prog w) A (Builtin.«isinstance.nested» ⟨[.ref a, cl, .int dep tk], []⟩) Q E s := by
  obtain ⟨hh, g, d, t, os⟩ := s
  have q0 := ty_exc (M := model prog w) e c
  obtain ⟨q1, q2, q3⟩ := kit_cls (M := model prog w) X kc
  obtain ⟨_, q4, _⟩ := kit_cls (M := model prog w) X k.kc
  have q5 : Looks (model prog w) hh (isInstance (.ref a) cl) b := q0.andThen q3
  unfold Builtin.«isinstance.nested»
  refine wpAny_bind (q0.at ?_)
  by_cases he : (Value.ref C == cl) = true
  · have hbt : b = true := by
      cases b with
      | true => rfl
      | false => rw [hb rfl] at he; cases he
    subst hbt
    rw [if_pos he]
    refine wpAny_bind (wpAny_rule ?_)
    exact wpAny_pure (h t)
  · rw [if_neg he]
    refine wpAny_bind (q1.at ?_)
    rw [if_pos (by decide)]
    k_delta "plainIsInstance"
    refine wpAny_bind (wpAny_bind (q2.at ?_))
    simp only [if_false, Bool.not_true, Bool.false_eq_true]
    refine wpAny_bind (q5.at ?_)
    cases b with
    | true =>
      simp only [if_true]
      exact wpAny_pure (wpAny_pure (h t))
    | false =>
      simp only [if_false, Bool.false_eq_true]
      refine wpAny_bind (exc_class (s := ⟨hh, g, d, t, os⟩) X e c k ?_)
      refine wpAny_bind (q4.at ?_)
      simp only [if_false, Bool.not_true, Bool.false_eq_true]
      refine wpAny_bind (wpAny_rule ?_)
      refine q3.at ?_
      exact wpAny_pure (h (t + 1))
theorem exc_isi {cl : Value} {b : Bool} {Q : Value → Shared → Prop} (X : K.In s.heap) (e : s.heap.get? a = some oe) (c : oe.cls = .ref C) (k : ExcK K C) (kc : kitCls K (.ref C) cl = some b) (hb : b = false → (Value.ref C == cl) = false)
    (h : ∀ t', Q (.bool b) { s with toks := t' }) : wpAny (model prog w) A (call (.builtin "isinstance") [.ref a, cl]) Q E s :=
  call_isinstance_of (exc_nest X e c k kc hb h) (by intro z; cases z)
end
end L2

end
section
set_option Elab.async false
set_option linter.all false
set_option maxRecDepth 100000
set_option maxHeartbeats 4000000
namespace L2
open PySem PySem.Spec PyProof.Rows
/-! ### defs that may raise, by their names -/
noncomputable def spX1 (b : V → Hp → VK → XK → Prop) : Sp := fun vs H Q E => ∃ x, vs = [x] ∧ b x H Q E
noncomputable def spX2 (b : V → V → Hp → VK → XK → Prop) : Sp := fun vs H Q E => ∃ x y, vs = [x, y] ∧ b x y H Q E
theorem useX1 {b : V → Hp → VK → XK → Prop} {x : V} {H : Hp} {Q : VK} {E : XK} (h : b x H Q E) : spX1 b [x] H Q E := ⟨x, rfl, h⟩
theorem useX2 {b : V → V → Hp → VK → XK → Prop} {x y : V} {H : Hp} {Q : VK} {E : XK} (h : b x y H Q E) : spX2 b [x, y] H Q E := ⟨x, y, rfl, h⟩
structure CalleeX (P : Program) (w : World) (K : PySem.W.Frag) (mg : Str → Option Value) (base : Heap) (C : Addr) (x : Str) (k : Nat) (ps : List Str) (sp : Sp) : Prop where
  ex : ∃ f fd, FnOk P w K mg base (Fly P w C) k f fd ps sp ∧ mg x = some (.ref f) ∧ PySem.W.keepIn K (.ref f) = true ∧ Binds K fd ps []
section
variable {P : Program} {w : World} {K : PySem.W.Frag} {mg : Str → Option Value} {base : Heap} {x : Str} {st : Stmt} {ps N : List Str} {sp : Sp} {k : Nat} {C : Addr}
noncomputable def GoalX (P : Program) (w : World) (K : PySem.W.Frag) (mg : Str → Option Value) (base : Heap) (C : Addr) (N : List Str) (x : Str) (st : Stmt) (f : Addr) (cdv : Value) (A : Around) (outer : List Env) (s : Shared) (H : Hp) (vs : List V) (Q : VK) (E : XK) : Prop :=
  ∃ t, PSs (cxOf (Fly P w C) P w K mg base N x (defScope st) f cdv A outer s H E) (defBody st) t ∧ t { nx := fun _ H' => Q .non H', rt := Q } (start N vs) H
theorem TopFn.calleeX (T : TopFn K mg x st ps) (S : FnScope N ps (defScope st)) (len : ∀ vs H Q E, sp vs H Q E → vs.length = ps.length)
    (h : ∀ (f : Addr) (cdv : Value) (A : Around) (outer : List Env) (s : Shared) (H : Hp) (vs : List V) (Q : VK) (E : XK), Room k (A.deeper (envOfC x (defScope st) s.heap.objs.size f cdv)) → sp vs H Q E → GoalX P w K mg base C N x st f cdv A outer s H vs Q E) : CalleeX P w K mg base C x (k + 1) ps sp := by
  obtain ⟨f, fd, F, hm, hb⟩ := T.ex
  refine ⟨f, fd, ?_, hm, F.kp, hb⟩
  obtain ⟨oc, od, kV, doc, pm, an, cdv, ct, osl, rfl, lk, hcd⟩ := F.ex
  exact fn_of lk hcd S len fun A outer s H vs Q E hr hsp => h f cdv A outer s H vs Q E hr hsp
theorem TopFn.okX1 {a1 : Str} {b : V → Hp → VK → XK → Prop} (T : TopFn K mg x st [a1]) (S : FnScope N [a1] (defScope st))
    (h : ∀ (f : Addr) (cdv : Value) (A : Around) (outer : List Env) (s : Shared) (H : Hp) (v1 : V) (Q : VK) (E : XK), Room k (A.deeper (envOfC x (defScope st) s.heap.objs.size f cdv)) → b v1 H Q E → GoalX P w K mg base C N x st f cdv A outer s H [v1] Q E) : CalleeX P w K mg base C x (k + 1) [a1] (spX1 b) :=
  T.calleeX S (fun vs H Q E ⟨_, e, _⟩ => by rw [e]; rfl) fun f cdv A outer s H vs Q E hr hsp => by
    obtain ⟨v1, rfl, hb⟩ := hsp
    exact h f cdv A outer s H v1 Q E hr hb
theorem TopFn.okX2 {a1 a2 : Str} {b : V → V → Hp → VK → XK → Prop} (T : TopFn K mg x st [a1, a2]) (S : FnScope N [a1, a2] (defScope st))
    (h : ∀ (f : Addr) (cdv : Value) (A : Around) (outer : List Env) (s : Shared) (H : Hp) (v1 v2 : V) (Q : VK) (E : XK), Room k (A.deeper (envOfC x (defScope st) s.heap.objs.size f cdv)) → b v1 v2 H Q E → GoalX P w K mg base C N x st f cdv A outer s H [v1, v2] Q E) : CalleeX P w K mg base C x (k + 1) [a1, a2] (spX2 b) :=
  T.calleeX S (fun vs H Q E ⟨_, _, e, _⟩ => by rw [e]; rfl) fun f cdv A outer s H vs Q E hr hsp => by
    obtain ⟨v1, v2, rfl, hb⟩ := hsp
    exact h f cdv A outer s H v1 v2 Q E hr hb
theorem go_bodyX {f : Addr} {cdv : Value} {A : Around} {outer : List Env} {s : Shared} {H : Hp} {vs : List V} {Q : VK} {E : XK} {t : TS} (σ : St) (hσ : start N vs = σ) (h : PSs (cxOf (Fly P w C) P w K mg base N x (defScope st) f cdv A outer s H E) (defBody st) t)
    (q : t { nx := fun _ H' => Q .non H', rt := Q } σ H) : GoalX P w K mg base C N x st f cdv A outer s H vs Q E := ⟨t, h, by rw [hσ]; exact q⟩
theorem rd_raise {E : XK} {t : TA} {D : Ends} {σ : St} {H : Hp} (h : t σ H fun vs H1 => vs.length ≤ 1000 ∧ E (.ref C) none H1) : tRaise E C t D σ H := h
end
/-- within a def that may raise: a call of another such -/
theorem pe_fnX {P : Program} {w : World} {K : PySem.W.Frag} {mg : Str → Option Value} {base : Heap} {C : Addr} {N : List Str} {qual : Str} {scope : Scope} {f : Addr} {cd : Value} {A : Around} {outer : List Env} {s : Shared} {H : Hp} {E : XK} {x : Str} {k : Nat} {ps : List Str} {sp : Sp} {p pos : Pos} {e : Expr} {es : List Expr} {t : TA}
    (Cx : CalleeX P w K mg base C x k ps sp) (hr : Room k (A.deeper (envOfC qual scope s.heap.objs.size f cd))) (hg : Gl (cxOf (Fly P w C) P w K mg base N qual scope f cd A outer s H E) x) (ha : PA (cxOf (Fly P w C) P w K mg base N qual scope f cd A outer s H E) (e :: es) t) (hdb : (x == ("__debug__" : Str)) = false := by decide)
    (he : starEach (e :: es) (cxOf (Fly P w C) P w K mg base N qual scope f cd A outer s H E).env = (false, eval e (cxOf (Fly P w C) P w K mg base N qual scope f cd A outer s H E).env) :: starEach es (cxOf (Fly P w C) P w K mg base N qual scope f cd A outer s H E).env := by rfl)
    (hpl : (backTo pos (starEach es (cxOf (Fly P w C) P w K mg base N qual scope f cd A outer s H E).env)).any (·.1) = false := by rfl) :
    PE (cxOf (Fly P w C) P w K mg base N qual scope f cd A outer s H E) (.Call (.Name x p) (e :: es) [] pos) (tCall sp [] E t) := by
  obtain ⟨f', fd, F, hm, hk, hb⟩ := Cx.ex
  exact pe_call F hr hg hm hk hb .nil pass_out ha hdb he hpl
section
variable {X : Cx} {C : Addr}
/-- try, with the callee by its name -/
theorem ps_tryC {i j k : Nat} {L : Addr} {ps : List Str} {sp : Sp} {fn x lx n : Str} {px p1 p2 p3 np hp pos : Pos} {e1 : Expr} {es : List Expr} {ta : TA} {th : Addr → TS} {b0 : Stmt} {suite : List Stmt}
    (Cc : CalleeX X.prog X.w X.K X.mg X.base C fn k ps sp) (hr : Room k X.A) (hst : X.stack = X.env :: X.outer) (hfm : X.env.frame = some X.env.locals) (hN : X.N.Nodup) (hi : X.N[i]? = some x) (hx : Loc X.env.scope x) (hf : X.fn x = true ∨ X.env.scope.names.lookup x = some .local) (hj : X.N[j]? = some n) (hjl : X.env.kindOf n = some .local) (hjs : X.env.scope.names.lookup n = some .local)
    (hg : Gl X fn) (ha : PA X.nox (e1 :: es) ta) (hl : Gl X lx) (hlm : X.mg lx = some (.ref L)) (hex : PySem.W.exmOne X.K (.ref C) (.ref L) = some true)
    (hs : ∀ (a : Addr) (oe : Obj), oe.cls = .ref C → (∃ vs, oe.data = .fields vs) → PSs (X.held a oe) (b0 :: suite) (th a))
    (hsw : swapsWith (.Call (.Name fn p1) (e1 :: es) [] p2) (some (.Name x px)) p3.line X.env = pure false := by rfl)
    (hd : (fn == ("__debug__" : Str)) = false := by decide) (hd2 : (lx == ("__debug__" : Str)) = false := by decide) (he : starEach (e1 :: es) X.env = (false, eval e1 X.env) :: starEach es X.env := by rfl) (hpl : (backTo p2 (starEach es X.env)).any (·.1) = false := by rfl) :
    PS X (.Try [.Assign [.Name x px] (.Call (.Name fn p1) (e1 :: es) [] p2) p3] [.ExceptHandler (some (.Name lx np)) (some n) (b0 :: suite) hp] [] [] pos) (tTryX i j sp ta th) := by
  obtain ⟨f, fd, F, hm, hk, hb⟩ := Cc.ex
  exact ps_tryX hst hfm hN hi hx hf hj hjl hjs F hr hg hm hk hb ha hl hlm hex hs hsw hd hd2 he hpl
theorem rd_tryX {i j : Nat} {sp : Sp} {ta : TA} {th : Addr → TS} {D : Ends} {σ : St} {H : Hp} (h : ta σ H fun vs H1 => sp vs H1 (fun v H2 => D.nx (σ.set i (some v)) H2)
  (fun _ _ H2 => ∀ a, H2 a = none → th a { nx := fun σ' H3 => D.nx (σ'.set j none) H3, rt := fun _ _ => False } (σ.set j (some (.ref a))) H2)) : tTryX i j sp ta th D σ H := h
/-- isinstance of the exception that is held -/
noncomputable def rIsX (K : PySem.W.Frag) (C a : Addr) : List V → Hp → VK → Prop := fun xs H Q => (∃ L b, xs = [.ref a, .ref L] ∧ PySem.W.kitCls K (.ref C) (.ref L) = some b ∧ (b = false → (Value.ref C == Value.ref L) = false) ∧ Q (.bl b) H) ∨ ∃ T b, xs = [.ref a, .ty T] ∧ PySem.W.kitCls K (.ref C) (.type T) = some b ∧ Q (.bl b) H
theorem call_isiX {a : Addr} {oe : Obj} {K : PySem.W.Frag} (hK : X.K = K) (hc : oe.cls = .ref C) (k : ExcK K C) : CallR (X.held a oe) (.builtin "isinstance") (rIsX K C a) := by
  subst hK
  intro pins s σ H xs us Q I r h
  have hp := I.pin (a, oe) (List.mem_append_left _ (show (a, oe) ∈ (a, oe) :: X.pn from List.mem_cons_self))
  rcases h with ⟨L, b, rfl, kc, hb, q⟩ | ⟨T, b, rfl, kc, q⟩
  · obtain ⟨u, v, rfl, ru, rv⟩ := r.two
    cases ru
    cases rv
    exact exc_isi I.kIn hp.1 hc k kc hb fun t' => ⟨.bl b, H, I.tok _, rfl, q⟩
  · obtain ⟨u, v, rfl, ru, rv⟩ := r.two
    cases ru
    cases rv
    exact exc_isi I.kIn hp.1 hc k kc (fun _ => rfl) fun t' => ⟨.bl b, H, I.tok _, rfl, q⟩
theorem rd_isX {K : PySem.W.Frag} {a L : Addr} {b : Bool} {H : Hp} {Q : VK} (kc : PySem.W.kitCls K (.ref C) (.ref L) = some b) (hb : b = false → (Value.ref C == Value.ref L) = false) (q : Q (.bl b) H) : rIsX K C a [.ref a, .ref L] H Q := .inl ⟨L, b, rfl, kc, hb, q⟩
theorem rd_isXT {K : PySem.W.Frag} {a : Addr} {T : String} {b : Bool} {H : Hp} {Q : VK} (kc : PySem.W.kitCls K (.ref C) (.type T) = some b) (q : Q (.bl b) H) : rIsX K C a [.ref a, .ty T] H Q := .inr ⟨T, b, rfl, kc, q⟩
end
end L2

end
section
set_option Elab.async false
set_option linter.all false
set_option maxRecDepth 100000
set_option maxHeartbeats 4000000
namespace L2
open PySem PySem.Spec PyProof.Rows
/-! ### an exception on its way out of a comprehension -/
section
variable {M : Model} {A : Around} {E : Value → Shared → Prop} {s : Shared}
theorem note_like {e : Value} {env env' : Env} (h : env'.frame = env.frame) : noteFrame e env' = noteFrame e env := by
  unfold noteFrame PySem.frameOf
  rw [h]
theorem frames_less {h B B' : Heap} (k : ∀ b, B.get? b = none → B'.get? b = none) : ∀ {l : List Env}, h.FunFrames B l → h.FunFrames B' l
  | [], _ => trivial
  | _ :: _, ⟨a, ⟨L, o, f1, f2, f3⟩, r⟩ => ⟨a, ⟨L, o, f1, k _ f2, f3⟩, frames_less k r⟩
/-- its place is whatever it was -/
noncomputable def HeldA (B : Heap) (l : List Env) (e : Addr) (cls a0 fl : Value) (h : Heap) : Prop := B.StaysIn h ∧ B.get? e = none ∧ h.FunFrames B l ∧ h.TracedAtW B e cls a0 fl
theorem held_less {B B' h : Heap} {l : List Env} {e : Addr} {cls a0 fl : Value} (x : HeldA B l e cls a0 fl h) (k : ∀ b o, B'.get? b = some o → B.get? b = some o) : HeldA B' l e cls a0 fl h := by
  have kn : ∀ b, B.get? b = none → B'.get? b = none := fun b hb => by
    cases q : B'.get? b with
    | none => rfl
    | some o => rw [k b o q] at hb; cases hb
  obtain ⟨x1, x2, x3, oe, vs, T, oT, ts, q1, q2, q3, q4, q5, q6⟩ := x
  exact ⟨fun b o hb => x1 b o (k b o hb), kn _ x2, frames_less kn x3, oe, vs, T, oT, ts, q1, q2, q3, q4, kn _ q5, q6⟩
/-- a namespace C that B does not hold is written -/
theorem held_but {B h h' : Heap} {l : List Env} {e C : Addr} {cls a0 fl : Value} {m : Str → Option Value} (x : HeldA B l e cls a0 fl h) (hC : B.get? C = none) (hn : h.Ns C m) (hl : C ∉ l.filterMap (·.frame)) (sb : Heap.SameBut C h h') : HeldA B l e cls a0 fl h' := by
  obtain ⟨x1, x2, x3, oe, vs, T, oT, ts, q1, q2, q3, q4, q5, q6, q7, q8, q9⟩ := x
  obtain ⟨oc, es, ep, c1, c2, _⟩ := hn
  have nf : ∀ {b : Addr} {o : Obj} {ws : Array Value}, h.get? b = some o → o.data = .fields ws → b ≠ C := fun {b o ws} u v z => by
    rw [z, c1] at u
    cases u
    rw [c2] at v
    cases v
  refine ⟨fun b o hb => (sb.2 b (fun z => by rw [z, hC] at hb; cases hb)).trans (x1 b o hb), x2, ?_, oe, vs, T, oT, ts, (sb.2 e (nf q1 q3)).trans q1, q2, q3, q4, q5, q6, (sb.2 T (nf q7 q8)).trans q7, q8, q9⟩
  clear q1 q2 q3 q4 q5 q6 q7 q8 q9
  induction l with
  | nil => trivial
  | cons env r ih =>
    obtain ⟨y1, ⟨L, o, y2, y3, y4, y5⟩, y6⟩ := x3
    have hm : L ∈ (env :: r).filterMap (·.frame) := List.mem_filterMap.mpr ⟨env, List.mem_cons_self, y2⟩
    refine ⟨y1, ⟨L, o, y2, y3, (sb.2 L (fun z => hl (z ▸ hm))).trans y4, y5⟩, ih (fun z => hl ?_) y6⟩
    obtain ⟨e1, m1, m2⟩ := List.mem_filterMap.mp z
    exact List.mem_filterMap.mpr ⟨e1, List.mem_cons_of_mem _ m1, m2⟩
/-- it is passed on with any place -/
theorem pass_any {B : Heap} {l : List Env} {e : Addr} {cls a0 fl : Value} {what : String} {cenv : Env} {Q : Value → Shared → Prop} (hh : HeldA B l e cls a0 fl s.heap)
    (hQ : ∀ h' fl', HeldA B l e cls a0 fl' h' → s.heap.UpToSlots h' → E (.ref e) { s with heap := h' }) : wpAny M A (PySem.passOn what (.ref e) cenv : Sem Value) Q E s := by
  obtain ⟨x1, x2, x3, oe, vs, T, oT, ts, q1, q2, q3, q4, q5, q6, q7, q8, q9⟩ := hh
  have hz : 3 < ts.size := (Array.getElem?_eq_some_iff.mp q9).1
  unfold PySem.passOn
  refine wpAny_bind (wpAny_field q1 q3 q4 ?_)
  rw [if_neg (show ¬ (Value.ref T == Value.none) = true by simp)]
  have go : wpAny M A (setFlight (.ref e) cenv.frame) (fun _ s' => wpAny M A (throw (.ref e) : Sem Value) Q E s') E s := by
    unfold setFlight
    refine wpAny_bind (wpAny_field q1 q3 q4 ?_)
    rw [if_pos (show (Value.ref T != Value.none) = true by simp)]
    refine wpAny_setField q7 q8 hz (wpAny_throw (hQ _ (cenv.frame.elim .none fun f => rawInt f) ?_ ?_))
    · have oth : ∀ b, b ≠ T → (s.heap.update T (Obj.mapFields (·.setIfInBounds 3 (cenv.frame.elim Value.none fun f => rawInt f)))).get? b = s.heap.get? b := fun b hb => Heap.get?_update_other _ _ (Ne.symm hb)
      have nT : ∀ b o, s.heap.get? b = some o → (∀ ws, o.data ≠ .fields ws) → b ≠ T := fun b o hb hn z => by
        rw [z, q7] at hb
        cases hb
        exact hn ts q8
      refine ⟨fun b o hb => (oth b (fun z => by rw [z, q5] at hb; cases hb)).trans (x1 b o hb), x2, x3.of_keeps fun b o hb hn => ⟨o, (oth b (nT b o hb hn)).trans hb, rfl⟩,
        oe, vs, T, _, _, (oth e (Ne.symm q6)).trans q1, q2, q3, q4, q5, q6, Heap.get?_update_self _ q7 (Obj.isFreed_of_fields (Obj.data_mapFields q8 _)), Obj.data_mapFields q8 _, by simp [hz]⟩
    · intro b o hb hn
      refine ⟨o.slots, (Heap.get?_update_other _ _ (fun z => ?_)).trans hb⟩
      rw [← z, q7] at hb
      cases hb
      exact hn ts q8
  first
    | exact wpAny_bind (wpAny_pure (wpAny_bind go))
    | exact wpAny_bind go
/-- out of the frame, wherever it was noted -/
theorem leaves_any {B : Heap} {env : Env} {outer : List Env} {L e : Addr} {cls a0 fl : Value} {Q : Unit → Shared → Prop} (hfr : A.frames = some (env :: outer)) (hf : env.frame = some L)
    (hh : HeldA B (env :: outer) e cls a0 fl s.heap) (hQ : ∀ h', Heap.FlyingW B outer e cls a0 h' → s.heap.UpToSlots h' → Q () { s with heap := h' }) : wpAny M A (leaving env (.ref e)) Q E s := by
  by_cases hb : fl = rawInt L
  · subst hb
    unfold leaving
    refine wpAny_bind (wpAny_noteFrame_againW hf hh.2.2.2 ?_)
    refine wpAny_landsW (l := env :: outer) hh fun h' x up => hQ h' ⟨x.1, x.2.1, x.2.2.1.2.2, x.2.2.2⟩ up
  · obtain ⟨x1, x2, x3, oe, vs, T, oT, ts, q1, ⟨q2, q2'⟩, q3, q4, q5, q6, q7, q8, q9⟩ := hh
    subst q2
    unfold leaving noteFrame
    simp only [hf]
    refine wpAny_bind (wpAny_bind (wpAny_field q1 q3 q4 ?_))
    rw [if_pos (show (Value.ref T != Value.none) = true by simp)]
    refine wpAny_bind (wpAny_field q7 q8 q9 ?_)
    rw [if_neg (show ¬ (fl == rawInt L) = true by simpa using hb)]
    refine wpAny_bind (wpAny_setField q7 q8 (Array.getElem?_eq_some_iff.mp q9).1 ?_)
    have oth : ∀ b, b ≠ T → (s.heap.update T (Obj.mapFields (·.setIfInBounds 3 Value.none))).get? b = s.heap.get? b := fun b hb => Heap.get?_update_other _ _ (Ne.symm hb)
    have nT : ∀ b o, s.heap.get? b = some o → (∀ ws, o.data ≠ .fields ws) → b ≠ T := fun b o hb hn z => by
      rw [z, q7] at hb
      cases hb
      exact hn ts q8
    refine wpAny_newEntryW hfr (x3.of_keeps fun b o hb hn => ⟨o, (oth b (nT b o hb hn)).trans hb, rfl⟩) hf ((oth e (Ne.symm q6)).trans q1) (fun b o hb => (oth b (fun z => by rw [z, q5] at hb; cases hb)).trans (x1 b o hb)) x2 q3
      (Array.getElem?_eq_some_iff.mp q4).1 q2' fun h' ⟨y1, y2, y3, y4⟩ => hQ h' ⟨y1, x2, y2.2.2, y3⟩ fun b o hb hn => y4 b o ((oth b (nT b o hb hn)).trans hb) hn
end
section
variable {P : Program} {w : World} {K : PySem.W.Frag} {mg : Str → Option Value} {base : Heap} {C : Addr} {N : List Str} {qual : Str} {scope : Scope} {f : Addr} {cd : Value} {A : Around} {outer : List Env} {s : Shared} {H : Hp} {E : XK}
/-- a callee's passes through a comprehension -/
theorem pass_bk {LN FN : List Str} {sc : Scope} {cl : List (Str × Addr)} {D : Addr} {fp : List Addr} {pins : List (Addr × Obj)} {s2 : Shared} {H2 : Hp} (hin : BkIn (cxOf (Fly P w C) P w K mg base N qual scope f cd A outer s H E) D fp pins s2 H2) :
    Passes (Fly P w C) (bkX (cxOf (Fly P w C) P w K mg base N qual scope f cd A outer s H E) LN FN sc cl D fp pins s2 H2) E := by
  intro pl σ1 H1 s1 e s3 I h
  obtain ⟨a, H3, B, t, rfl, os, bare, un, hok, fl, kB, he⟩ := h
  obtain ⟨⟨σ0, I0⟩, f2, hC⟩ := hin
  have I := I.unwish
  show wpAny _ _ (noteFrame (.ref a) (compEnvC sc cl D (envOfC qual scope s.heap.objs.size f cd))) _ _ s3
  rw [note_like (env := envOfC qual scope s.heap.objs.size f cd) (env' := compEnvC sc cl D (envOfC qual scope s.heap.objs.size f cd)) rfl]
  refine wpAny_looks_onW I0.ok.frames rfl fl fun h4 held4 up4 => ?_
  have I4b := I.land os bare un hok kB held4.1 up4
  have I4 := I0.call' (s' := { s3 with heap := h4 }) (ch := fp) I4b.os I4b.base I4b.hok I4b.bare fun b hb => by
    obtain ⟨_, n1, n2, n3, n4, n5⟩ := f2 b hb
    exact ⟨n3, n1, n4, n5⟩
  have nD : H3 D = none := I4b.free
  have fD := I0.fpOk (H' := H3) hC nD
  obtain ⟨m, hn, _⟩ := I4b.loc
  refine ⟨m, hn, fun h5 sb cenv _ => ?_⟩
  have hn : h4.Ns D m := hn
  have hd5 := held_but (held_less held4 (fun b o (q : (B.hide D).get? b = some o) => Heap.of_hide q)) (Heap.hide_self B D) hn (fun z => (List.mem_cons.mp (I0.stkSub D z)).elim fD.2.1 fD.2.2.1) sb
  have I5 := I4.turned (h' := h5) (t' := s3.toks) (fun b o hb e => (sb.2 b hb).trans e) nD fD.2.1 fD.2.2.2.1 fD.2.2.2.2.1 fD.2.2.2.2.2
  refine pass_any (s := { s3 with heap := h5 }) hd5 fun h6 fl6 hd6 up6 => ?_
  refine leaves_any (s := { s3 with heap := h6 }) I0.ok.frames rfl hd6 fun h7 fl7 up7 => ?_
  refine (fun r => r : Fly P w C outer H s E (.ref a) { s3 with heap := h7 } → Fly P w C outer H s E (.ref a) { s3 with heap := h7 }) ?_
  refine out_of (s1 := { s3 with heap := h5 }) I5 (fun b o hb q => ?_) fl7 (up6.trans up7) he
  have lt : ∀ {b : Addr}, s.heap.get? b ≠ none → b < s.heap.objs.size := fun {b} hb => by
    cases z : s.heap.get? b with
    | none => exact absurd z hb
    | some u => exact Heap.lt_size z
  have nbD : b ≠ D := by
    rintro rfl
    rcases hb with hb | ⟨hb, _⟩
    · exact hb nD
    · exact absurd (lt hb) (Nat.not_lt.mpr (Nat.le_trans I0.sz hC))
  rw [Heap.hide_ne _ nbD]
  have q4 : h4.get? b = some o := (sb.2 b nbD).symm.trans q
  have hb' : H3 b ≠ none ∨ (s1.heap.get? b ≠ none ∧ b ∉ frs (envOfC qual scope s.heap.objs.size f cd :: outer)) := by
    rcases hb with hb | ⟨hb, hn⟩
    · exact .inl hb
    · refine .inr ⟨?_, own_frame hb hn⟩
      cases z : s.heap.get? b with
      | none => exact absurd z hb
      | some u =>
        obtain ⟨o1, z1⟩ := I0.base.there b u z (show b ∉ ([] : List Addr) by simp)
        obtain ⟨o2, z2⟩ := I.base.there b o1 z1 (fun hm => by
          rcases (f2 b hm).2.2.2.1 with z' | z'
          · exact absurd z' (show b ∉ ([] : List Addr) by simp)
          · exact absurd (lt hb) (Nat.not_lt.mpr z'))
        rw [z2]
        exact fun z => by cases z
  have h3 : ∃ o3, s3.heap.get? b = some o3 := by
    rcases hb' with hb | ⟨hb, _⟩
    · cases z : H3 b with
      | none => exact absurd z hb
      | some u => exact ObjOk.has (hok b u z)
    · cases z : s1.heap.get? b with
      | none => exact absurd z hb
      | some u => exact un.there b u z (by simp)
  obtain ⟨o3, z3⟩ := h3
  have h1 := kB b o3 hb' z3
  have h2 := held4.1 b o3 h1
  rw [q4] at h2
  cases h2
  exact h1
end
end L2

end
section
set_option Elab.async false
set_option linter.all false
set_option maxRecDepth 100000
set_option maxHeartbeats 4000000
namespace L2
open PySem PySem.Spec PyProof.Rows
/-! ### a comprehension whose items may raise -/
section
variable {X : Cx} {tg elt iter : Expr} {ifs : List Expr} {sc : Scope} {pos : Pos} {LN FN : List Str} {fr : List Nat} {wi : TI} {g : TG} {tt : TT} {te : TE}

/-- name = [elt for tg in iter if ..], the store ahead of the block's end -/
theorem ps_setcX {i : Nat} {x : Str} {pos' pos2 : Pos} (hc : X.calm = true) (hN : X.N.Nodup) (hix : X.N[i]? = some x) (hx : X.env.scope.names.lookup x = some .local) (S : BkScope X.N sc X.env.scope LN FN fr) (hi : PI X tg iter wi)
    (hg : ∀ cl C fp pins s H, PG (bkCx X LN FN sc cl C fp pins s H) tg g) (ht : ∀ cl C fp pins s H, PTs (bkCx X LN FN sc cl C fp pins s H) ifs tt) (he : ∀ cl C fp pins s H, BkIn X C fp pins s H → PE (bkX X LN FN sc cl C fp pins s H) elt te)
    (hsw : swapsWith (.ListComp elt [⟨tg, iter, ifs, 0⟩] sc pos) (some (.Name x pos')) pos2.line X.env = pure true := by rfl)
    (hs : ∀ x, foldedSetIterable iter X.env x = pure x := by intro _; rfl) : PS X (.Assign [.Name x pos'] (.ListComp elt [⟨tg, iter, ifs, 0⟩] sc pos) pos2) (tAsg (tComp LN fr wi g tt te) (gName i)) := by
  intro pins s σ H D0 I h
  rw [exec_Assign_Name_used _ _ _ _ hsw]
  refine wpAny_bind (wpAny_standAt (wpAny_bind ?_))
  show wpAny _ X.A (do let _ ← comprehension (.ListComp elt [⟨tg, iter, ifs, 0⟩] sc pos) sc X.env _ (newList []) false (eval iter X.env) (some (assign (.Name x pos') X.env))) _ _ s
  obtain ⟨cl, ecl, h1, h2⟩ := closure_of (scope := sc) (env := X.env) fun y hy hk => I.ok.has y.1 (S.free y hy hk)
  refine wpAny_bind (wpAny_mono (wpAny_comprehension_free (use := some (assign (.Name x pos') X.env)) (Q := fun _ s' => SP X pins D0 .next s') rfl hs ecl S.kind S.names (thn (hi pins s σ H _ I h) fun v s1 q1 => thn q1 fun itv s2 q2 => ?_))
    (fun _ s' hq => wpAny_pure (wpAny_pure hq)) fun _ _ e => e)
  obtain ⟨it, fp, tn, J, H2, e, I2, T, st2, f2, W, ⟨m0, w0⟩, turn⟩ := q2
  subst e
  refine bk_runX (R := fun acc C => compPost (model X.prog X.w) X.A X.xe (some (assign (.Name x pos') X.env)) (fun _ s' => SP X pins D0 .next s') acc C) hc S hg ht he h1 h2 I2 T st2 f2 w0 turn (fun D C s' H' ys m hn J fC q => ?_) (fun _ _ _ _ z => z)
  show wpAny _ X.A (assign (.Name x pos') X.env (.ref D)) _ _ s'
  refine wpAny_assign_Name (store_ok2 J hN hix (.inl hx) (show RelV (.ref D) (.ref D) from rfl) (fun s'' J2 ⟨a, sb2, ha⟩ => ?_) (.inr hx))
  have nCa : C ≠ a := by
    rcases ha with z | z
    · rw [z]; exact fC.2.1
    · exact fun q => fC.2.2.2.2.1 x a z q.symm
  refine ⟨m, hn.sameBut sb2 nCa, fun h' sb => ⟨_, _, J2.turned (t' := s''.toks) (fun b o hb e => (sb.2 b hb).trans e) fC.1 fC.2.1 fC.2.2.2.1 fC.2.2.2.2.1 fC.2.2.2.2.2, q⟩⟩
end
/-- in the block of a comprehension: a call of a def that may raise -/
theorem pe_fnXb {P : Program} {w : World} {K : PySem.W.Frag} {mg : Str → Option Value} {base : Heap} {C : Addr} {N : List Str} {qual : Str} {scope : Scope} {f : Addr} {cd : Value} {A : Around} {outer : List Env} {s : Shared} {H : Hp} {E : XK} {x : Str} {k : Nat} {ps : List Str} {sp : Sp} {p pos : Pos} {e : Expr} {es : List Expr} {t : TA}
    {LN FN : List Str} {sc : Scope} {cl : List (Str × Addr)} {D : Addr} {fp : List Addr} {pins : List (Addr × Obj)} {s2 : Shared} {H2 : Hp} (hin : BkIn (cxOf (Fly P w C) P w K mg base N qual scope f cd A outer s H E) D fp pins s2 H2)
    (Cx : CalleeX P w K mg base C x k ps sp) (hr : Room k (A.deeper (envOfC qual scope s.heap.objs.size f cd))) (hg : Gl (bkX (cxOf (Fly P w C) P w K mg base N qual scope f cd A outer s H E) LN FN sc cl D fp pins s2 H2) x) (ha : PA (bkX (cxOf (Fly P w C) P w K mg base N qual scope f cd A outer s H E) LN FN sc cl D fp pins s2 H2) (e :: es) t) (hdb : (x == ("__debug__" : Str)) = false := by decide)
    (he : starEach (e :: es) (bkX (cxOf (Fly P w C) P w K mg base N qual scope f cd A outer s H E) LN FN sc cl D fp pins s2 H2).env = (false, eval e (bkX (cxOf (Fly P w C) P w K mg base N qual scope f cd A outer s H E) LN FN sc cl D fp pins s2 H2).env) :: starEach es (bkX (cxOf (Fly P w C) P w K mg base N qual scope f cd A outer s H E) LN FN sc cl D fp pins s2 H2).env := by rfl)
    (hpl : (backTo pos (starEach es (bkX (cxOf (Fly P w C) P w K mg base N qual scope f cd A outer s H E) LN FN sc cl D fp pins s2 H2).env)).any (·.1) = false := by rfl) :
    PE (bkX (cxOf (Fly P w C) P w K mg base N qual scope f cd A outer s H E) LN FN sc cl D fp pins s2 H2) (.Call (.Name x p) (e :: es) [] pos) (tCall sp [] E t) := by
  obtain ⟨f', fd, F, hm, hk, hb⟩ := Cx.ex
  exact pe_call F hr hg hm hk hb .nil (pass_bk hin) ha hdb he hpl
end L2

end
section
set_option Elab.async false
set_option linter.all false
set_option maxRecDepth 100000
set_option maxHeartbeats 4000000
namespace HT
open PySem PySem.Spec PyProof.Rows L2
end HT
namespace L2
open PySem PySem.Spec PyProof.Rows
end L2

end
section
set_option Elab.async false
set_option linter.all false
set_option maxRecDepth 100000
set_option maxHeartbeats 4000000
namespace L2
open PySem PySem.Spec PyProof.Rows
end L2

end
section
set_option Elab.async false
set_option linter.all false
set_option maxRecDepth 100000
set_option maxHeartbeats 4000000
namespace L2
open PySem PySem.Spec PyProof.Rows
/-- a call of a def that may raise, where it does not -/
theorem pe_fnF {X : Cx} {C : Addr} {x : Str} {k : Nat} {ps : List Str} {sp : Sp} {p pos : Pos} {e : Expr} {es : List Expr} {t : TA} (Cc : CalleeX X.prog X.w X.K X.mg X.base C x k ps sp) (hr : Room k X.A) (hg : Gl X x) (ha : PA X (e :: es) t) (hdb : (x == ("__debug__" : Str)) = false := by decide)
    (he : starEach (e :: es) X.env = (false, eval e X.env) :: starEach es X.env := by rfl) (hpl : (backTo pos (starEach es X.env)).any (·.1) = false := by rfl) : PE X (.Call (.Name x p) (e :: es) [] pos) (tCall sp [] (fun _ _ _ => False) t) := by
  obtain ⟨f', fd, F, hm, hk, hb⟩ := Cc.ex
  refine pe_call F hr hg hm hk hb .nil ?_ ha hdb he hpl
  intro pins σ H s e s' I h
  obtain ⟨_, _, _, _, _, _, _, _, _, _, _, z⟩ := h
  exact z.elim
/-- != of a list of anything and an empty one -/
noncomputable def rNeE (K : PySem.W.Frag) : R2 := fun x y H Q => ∃ a b xs, x = .ref a ∧ y = .ref b ∧ SqL K H a xs ∧ SqL K H b [] ∧ Q (.bl (!decide (xs = []))) H
theorem op_neE {X : Cx} (hu : X.A.units + 64 < cLine) : OpR X (compareOp .NotEq) (rNeE X.K) := by
  rintro pins s σ H x y v u Q I rx ry ⟨a, b, xs, rfl, rfl, ha, hb, q⟩
  by_cases hx : xs = []
  · subst hx
    refine op_neL hu pins s σ H _ _ v u Q I rx ry ⟨a, b, [], [], [], [], rfl, rfl, ha, hb, reps_nil, reps_nil, rfl, rfl, by simp [D.deps], ?_⟩
    rw [eqD_same]
    simpa using q
  · cases rx; cases ry
    obtain ⟨its, vx, ht, _⟩ := I.list ha
    obtain ⟨its', vy, ht', _⟩ := I.list hb
    have l1 := vx.length
    have l2 := vy.length
    have hl : its.length ≠ its'.length := by
      have : 0 < xs.length := List.length_pos_iff.mpr hx
      have l2 : 0 = its'.length := l2
      omega
    refine SeqAt.RcNeAt.lists_lengths ht.isList ht'.isList (by simpa using hl) (by omega) _ _ _ _ (fin_bl I q ?_)
    simp [hx]
theorem k_neE {X : Cx} {K : PySem.W.Frag} (h : X.K = K) (hu : X.A.units + 64 < cLine) : OpR X (compareOp .NotEq) (rNeE K) := h ▸ op_neE hu
theorem rd_neE {K : PySem.W.Frag} {H : Hp} {a b : Addr} {xs : List V} {Q : VK} (h1 : H a = some (.lst xs)) (h2 : H b = some (.lst [])) (q : Q (.bl (!decide (xs = []))) H) : rNeE K (.ref a) (.ref b) H Q := ⟨a, b, xs, rfl, rfl, SqL.of h1, SqL.of h2, q⟩
end L2

end
section
set_option Elab.async false
set_option linter.all false
set_option maxRecDepth 100000
set_option maxHeartbeats 4000000
namespace L2
open PySem PySem.Spec PyProof.Rows
section
variable {X : Cx} {tg elt iter : Expr} {ifs : List Expr} {sc : Scope} {pos : Pos} {LN FN : List Str} {fr : List Nat} {wi : TI} {g : TG} {tt : TT} {te : TE}

/-- [elt for tg in iter if ..] -/
theorem pe_compX (hc : X.calm = true) (S : BkScope X.N sc X.env.scope LN FN fr) (hi : PI X tg iter wi)
    (hg : ∀ cl C fp pins s H, PG (bkCx X LN FN sc cl C fp pins s H) tg g) (ht : ∀ cl C fp pins s H, PTs (bkCx X LN FN sc cl C fp pins s H) ifs tt) (he : ∀ cl C fp pins s H, BkIn X C fp pins s H → PE (bkX X LN FN sc cl C fp pins s H) elt te)
    (hs : ∀ x, foldedSetIterable iter X.env x = pure x := by intro _; rfl) : PE X (.ListComp elt [⟨tg, iter, ifs, 0⟩] sc pos) (tComp LN fr wi g tt te) := by
  intro pins s σ H Q I h
  rw [eval_ListComp]
  obtain ⟨cl, ecl, h1, h2⟩ := closure_of (scope := sc) (env := X.env) fun y hy hk => I.ok.has y.1 (S.free y hy hk)
  refine wpAny_comprehension_free (use := none) rfl hs ecl S.kind S.names (thn (hi pins s σ H _ I h) fun v s1 q1 => thn q1 fun itv s2 q2 => ?_)
  obtain ⟨it, fp, tn, J, H2, e, I2, T, st2, f2, W, ⟨m0, w0⟩, turn⟩ := q2
  subst e
  refine bk_runX (R := fun acc C => compPost (model X.prog X.w) X.A X.xe none (EP X pins σ Q) acc C) hc S hg ht he h1 h2 I2 T st2 f2 w0 turn (fun D C s' H' ys m hn J fC q => ?_) (fun _ _ _ _ z => z)
  refine ⟨m, hn, fun h' sb => ⟨.ref D, _, J.turned (t' := s'.toks) (fun b o hb e => (sb.2 b hb).trans e) fC.1 fC.2.1 fC.2.2.2.1 fC.2.2.2.2.1 fC.2.2.2.2.2, rfl, q⟩⟩

end
/-! ### how often a text stands in a tuple of texts -/
noncomputable def isZ (z : Str) : Value → Bool
  | .str a _ => a == z
  | _ => false
theorem vals_count {z : Str} : ∀ {zs : List Str} {its : List Value}, Vals (zs.map V.str) its → its.countP (isZ z) = zs.countP (· == z)
  | [], _, .nil => rfl
  | a :: zs, _, .cons r t => by
    obtain ⟨u, rfl⟩ := r
    rw [List.countP_cons, List.countP_cons, vals_count t]
    rfl
theorem vals_str : ∀ {zs : List Str} {its : List Value}, Vals (zs.map V.str) its → ∀ y ∈ its, ∃ a t, y = .str a t
  | [], _, .nil, _, h => by cases h
  | a :: zs, _, .cons r t, y, h => by
    obtain ⟨u, rfl⟩ := r
    rcases List.mem_cons.mp h with rfl | h
    · exact ⟨a, u, rfl⟩
    · exact vals_str t y h
section
variable {X : Cx}
noncomputable def rCnt (K : PySem.W.Frag) : V → List V → Hp → VK → Prop := fun x vs H Q => ∃ a zs z, x = .ref a ∧ vs = [.str z] ∧ SqT K H a ((zs : List Str).map V.str) ∧ Q (.int (zs.countP (· == z) : Nat)) H
theorem mt_count : MtR X "tuple.count" (rCnt X.K) := by
  intro pins s σ H x vs v us Q I rx rv h
  obtain ⟨a, zs, z, rfl, rfl, ha, q⟩ := h
  cases rx
  obtain ⟨u, rfl, ru⟩ := rv.one
  obtain ⟨t, rfl⟩ := ru
  obtain ⟨its, vx, ⟨⟨cl, dd, da, sl⟩, e, hc, n, hd⟩, _⟩ := I.tuple ha
  dsimp only at hc hd
  subst hc hd
  refine call_meets F.slot_tuple_count ⟨_, e, rfl⟩ F.entry_tuple_count (F.args_tuple_count_2 _ _) (SeqAt.tuple_countAt a its.toArray n dd sl (.str z t) (isZ z)) ⟨e, fun y hy => ?_, ?_⟩
  · obtain ⟨b, t', rfl⟩ := vals_str vx y (by simpa using hy)
    exact SeqAt.EqAt.str_str b t' z t
  · refine ⟨.int _, H, I.tok _, ⟨_, rfl⟩, ?_⟩
    have : its.toArray.toList.countP (isZ z) = zs.countP (· == z) := by rw [List.toList_toArray]; exact vals_count vx
    rw [this]
    exact q
theorem k_count {K : PySem.W.Frag} (h : X.K = K) : MtR X "tuple.count" (rCnt K) := h ▸ mt_count
theorem rd_count {K : PySem.W.Frag} {a : Addr} {zs : List Str} {z : Str} {H : Hp} {Q : VK} (ha : SqT K H a (zs.map V.str)) (q : Q (.int (zs.countP (· == z) : Nat)) H) : rCnt K (.ref a) [.str z] H Q := ⟨a, zs, z, rfl, rfl, ha, q⟩
end
noncomputable def deedT : List (Str × List Str) := [("go", ["edge"]), ("test", ["edge", "edge"]), ("tell", ["edge"]), ("take", ["edge"]), ("hold", ["number", "number", "edge"]), ("leave", [])]
/-! ### a dict of the text's own, whose tuples may be asked for a count -/
noncomputable def CTupN (K : PySem.W.Frag) (a : Addr) (xs : List V) : Prop := CTup K a xs ∧ ∃ o, K.lookup a = some o ∧ o.cls = .type "tuple" ∧ o.dict = none
noncomputable def CDatN (K : PySem.W.Frag) (w : World) (a : Addr) (tb : List (Str × List Str)) : Prop :=
  (a == sysModules) = false ∧ (tb.map (·.1)).Nodup ∧ ∃ (rows : List (Str × Tok × Addr)) (ep : Nat), K.lookup a = some { cls := .type "dict", data := .dict (rows.map (entC w)).toArray ep } ∧
    Paired (fun (p : Str × List Str) (q : Str × Tok × Addr) => p.1 = q.1 ∧ CTupN K q.2.2 (p.2.map V.str)) tb rows
theorem cdN_find {K : PySem.W.Frag} {tb : List (Str × List Str)} {rows : List (Str × Tok × Addr)} (h : Paired (fun (p : Str × List Str) (q : Str × Tok × Addr) => p.1 = q.1 ∧ CTupN K q.2.2 (p.2.map V.str)) tb rows) (x : Str) :
    (tb.lookup x = none ∧ valueAt (rows.map fun q => ((Sum.inr q.1 : Key), Value.ref q.2.2)) (Sum.inr x) = none) ∨ ∃ ks a, tb.lookup x = some ks ∧ CTupN K a (ks.map V.str) ∧ valueAt (rows.map fun q => ((Sum.inr q.1 : Key), Value.ref q.2.2)) (Sum.inr x) = some (.ref a) := by
  induction h with
  | nil => exact .inl ⟨rfl, rfl⟩
  | @cons p q ps qs hq t ih =>
    obtain ⟨p1, p2⟩ := p
    obtain ⟨q1, qt, qa⟩ := q
    obtain ⟨e, c⟩ := hq
    dsimp only at e c
    subst e
    by_cases z : x = p1
    · subst z
      refine .inr ⟨p2, qa, by simp [List.lookup], c, ?_⟩
      simp [valueAt]
    · have z1 : (x == p1) = false := by simpa using z
      have z2 : ¬ p1 = x := fun w => z w.symm
      have e1 : List.lookup x ((p1, p2) :: ps) = List.lookup x ps := by simp [List.lookup, z1]
      have e2 : valueAt (((p1, qt, qa) :: qs).map fun q => ((Sum.inr q.1 : Key), Value.ref q.2.2)) (Sum.inr x) = valueAt (qs.map fun q => ((Sum.inr q.1 : Key), Value.ref q.2.2)) (Sum.inr x) := by
        simp [valueAt, z2]
      rw [e1, e2]
      exact ih
theorem CDatN.dict {P : Program} {w : World} {K : PySem.W.Frag} {h : Heap} {a : Addr} {tb : List (Str × List Str)} (c : CDatN K w a tb) (hk : K.In h) : ∃ vs, h.DictOf (mixKind P w) a vs ∧
    ∀ x, (tb.lookup x = none ∧ valueAt vs (Sum.inr x) = none) ∨ ∃ ks b, tb.lookup x = some ks ∧ CTupN K b (ks.map V.str) ∧ valueAt vs (Sum.inr x) = some (.ref b) := by
  obtain ⟨hs, nd, rows, ep, hl, pr⟩ := c
  refine ⟨rows.map fun q => ((Sum.inr q.1 : Key), Value.ref q.2.2), ⟨_, _, ep, hk a _ hl, ⟨rfl, rfl, rfl⟩, rfl, ?_, by simpa using cd_pairs rows, ?_⟩, cdN_find pr⟩
  · intro e he
    have he : e ∈ rows.map (entC w) := by simpa using he
    obtain ⟨q, hq, rfl⟩ := List.mem_map.mp he
    exact ⟨.inr q.1, mixKind_str P w q.1 q.2.1, rfl⟩
  · have e : rows.map (·.1) = tb.map (·.1) := by
      clear hl nd
      induction pr with
      | nil => rfl
      | cons hq t ih => rw [List.map_cons, List.map_cons, ih, hq.1]
    rw [List.map_map]
    have : (rows.map (·.1)).Nodup := e ▸ nd
    have e2 : rows.map ((fun x : Key × Value => x.1) ∘ fun q : Str × Tok × Addr => ((Sum.inr q.1 : Key), Value.ref q.2.2)) = (rows.map (·.1)).map Sum.inr := by rw [List.map_map]; rfl
    rw [e2]
    exact List.Pairwise.map _ (fun a b z z' => z (Sum.inr.inj z')) this
theorem pairedN {K : PySem.W.Frag} {tb : List (Str × List Str)} {rows : List (Str × Tok × Addr)} (h : Paired (fun (p : Str × List Str) (q : Str × Tok × Addr) => p.1 = q.1 ∧ CTupN K q.2.2 (p.2.map V.str)) tb rows) : Paired (fun (p : Str × List Str) (q : Str × Tok × Addr) => p.1 = q.1 ∧ CTup K q.2.2 (p.2.map V.str)) tb rows := by
  induction h with
  | nil => exact .nil
  | cons hq _ ih => exact .cons ⟨hq.1, hq.2.1⟩ ih
theorem CDatN.cd {K : PySem.W.Frag} {w : World} {a : Addr} {tb : List (Str × List Str)} (c : CDatN K w a tb) : CDat K w a tb := by
  obtain ⟨h1, h2, rows, ep, h3, h4⟩ := c
  exact ⟨h1, h2, rows, ep, h3, pairedN h4⟩
noncomputable def IsCDN (K : PySem.W.Frag) (w : World) (mg : Str → Option Value) (x : Str) (tb : List (Str × List Str)) : Prop := ∃ a, mg x = some (.ref a) ∧ CDatN K w a tb
noncomputable def tCDN (K : PySem.W.Frag) (w : World) (tb : List (Str × List Str)) : TE := fun _ H Q => ∀ a, CDatN K w a tb → Q (.ref a) H
noncomputable def tCDGetN (K : PySem.W.Frag) (w : World) (tb : List (Str × List Str)) (td ty : TE) : TE := fun σ H Q => td σ H fun x H1 => ty σ H1 fun y H2 => ∃ a k ks, x = .ref a ∧ CDatN K w a tb ∧ y = .str k ∧ tb.lookup k = some ks ∧ ∀ b, CTupN K b (ks.map V.str) → Q (.ref b) H2
section
variable {X : Cx} {o i e value : Expr} {pos pos' tpos : Pos} {td ty tv : TE} {x : Str} {K : PySem.W.Frag} {w : World} {tb : List (Str × List Str)}
theorem pe_cdN (hg : Gl X x) (h : IsCDN K w X.mg x tb) (hd : (x == ("__debug__" : Str)) = false := by decide) : PE X (.Name x pos) (tCDN K w tb) := by
  obtain ⟨a, h, r⟩ := h
  intro pins s σ H Q I q
  exact pe_glob (v := .ref a) hg h rfl hd pins s σ H Q I (q a r)
theorem pe_cdgetN (hK : X.K = K) (hw : X.w = w) (ho : PE X o td) (hi : PE X i ty) (hs : NoSl i) : PE X (.Subscript o i pos) (tCDGetN K w tb td ty) := by
  subst hK; subst hw
  intro pins s σ H Q I h
  refine subD_of PySem.F.slot_dict_getitem.lookup hs (thn (ho pins s σ H _ I h) fun u s1 ⟨x, H1, I1, rx, q1⟩ => thn (hi pins s1 σ H1 _ I1 q1) fun iv s2 ⟨y, H2, I2, ry, a, k, ks, ex, c, ey, l, q2⟩ => ?_)
  subst ex; subst ey
  obtain rfl : u = Value.ref a := rx
  obtain ⟨vs, dd, hf⟩ := c.dict (P := X.prog) I2.kIn
  refine ⟨dd.typeIs, ?_⟩
  rcases hf k with ⟨e1, e2⟩ | ⟨ks', b, e1, ct, e2⟩
  · rw [l] at e1; cases e1
  · rw [l] at e1; cases e1
    exact wpAny_getItem_of (kV_is (k := Sum.inr k) ry) dd.mapOf e2 ⟨.ref b, H2, I2.tok _, rfl, q2 b ct⟩
end
theorem rd_cdN {K : PySem.W.Frag} {w : World} {tb : List (Str × List Str)} {σ : St} {H : Hp} {Q : VK} (h : ∀ a, CDatN K w a tb → Q (.ref a) H) : tCDN K w tb σ H Q := h
noncomputable def cdNK (K : PySem.W.Frag) (w : World) (tb : List (Str × List Str)) (Q : VK) (x y : V) (H2 : Hp) : Prop := ∃ a k ks, x = .ref a ∧ CDatN K w a tb ∧ y = .str k ∧ tb.lookup k = some ks ∧ ∀ b, CTupN K b (ks.map V.str) → Q (.ref b) H2
theorem rd_cdgetN {K : PySem.W.Frag} {w : World} {tb : List (Str × List Str)} {td ty : TE} {σ : St} {H : Hp} {Q : VK} (h : td σ H fun x H1 => ty σ H1 fun y H2 => cdNK K w tb Q x y H2) : tCDGetN K w tb td ty σ H Q := h
theorem cdNK_of {K : PySem.W.Frag} {w : World} {tb : List (Str × List Str)} {a : Addr} {k : Str} {ks : List Str} {H : Hp} {Q : VK} (c : CDatN K w a tb) (l : tb.lookup k = some ks) (h : ∀ b, CTupN K b (ks.map V.str) → Q (.ref b) H) : cdNK K w tb Q (.ref a) (.str k) H := ⟨a, k, ks, rfl, c, rfl, l, h⟩
end L2

end
section
set_option Elab.async false
set_option linter.all false
set_option maxRecDepth 100000
set_option maxHeartbeats 4000000
namespace L2
open PySem PySem.Spec PyProof.Rows PySem.Builtin PySem.Builtin.Str PySem.NumText
/-! ### lanes as texts: reading -/
noncomputable def semi : Str := ";"
noncomputable def colon : Str := ":"
theorem semi_eq : semi = ⟨#[59]⟩ := by decide
theorem colon_eq : colon = ⟨#[58]⟩ := by decide
noncomputable def edgeW : Str := "edge"
noncomputable def numberW : Str := "number"
noncomputable def frameW : Str := "frame"
noncomputable def standW : Str := "stand"
noncomputable abbrev FormI := Int × List (Int × Int)
noncomputable abbrev EdgeI := Int × List FormI × Int
noncomputable abbrev FrameI := Int × Int × List FormI
noncomputable abbrev DeedI := Str × List Int × List EdgeI
noncomputable abbrev StandI := Int × List FrameI × DeedI
noncomputable def both {α β γ : Type} (f : α → β → γ) : Option α → Option β → Option γ
  | some x, some y => some (f x y)
  | _, _ => none
noncomputable def pairL : List Str → Option (Int × Int)
  | [a, b] => both Prod.mk (wholeP 300 a) (wholeP 300 b)
  | _ => none
noncomputable def pairP (z : Str) : Option (Int × Int) := pairL (Txt.split z colon)
noncomputable def formL : List Str → Option FormI
  | [] => none
  | p :: ps => both Prod.mk (wholeP 300 p) (ps.mapM pairP)
noncomputable def formP (z : Str) : Option FormI := formL (Txt.split z semi)
noncomputable def formsP (ws : List Str) : Option (List FormI) := ws.mapM formP
noncomputable def numsP (many : Nat) (ws : List Str) : Option (List Int) := if ws.length = many + 1 then (ws.drop 1).mapM (wholeP 300) else none
noncomputable def mkEdge : List Int → List FormI → Option EdgeI
  | [a, b], fs => some (a, fs, b)
  | _, _ => none
noncomputable def mkFrame : List Int → List FormI → Option FrameI
  | [a, b], fs => some (a, b, fs)
  | _, _ => none
noncomputable def edgeP (ws : List Str) : Option EdgeI := if ws.head? = some edgeW then (both Prod.mk (numsP 2 (ws.take 3)) (formsP (ws.drop 3))).bind fun q => mkEdge q.1 q.2 else none
noncomputable def frameP (ws : List Str) : Option FrameI := (both Prod.mk (numsP 2 (ws.take 3)) (formsP (ws.drop 3))).bind fun q => mkFrame q.1 q.2
noncomputable def deedP (ws : List Str) (lines : List (List Str)) : Option DeedI := match ws with
  | [] => none
  | w :: _ => match deedT.lookup w with
    | none => none
    | some ks => match numsP (ks.countP (· == numberW)) ws with
      | none => none
      | some ns => if lines.length = ks.countP (· == edgeW) then (lines.mapM edgeP).map fun es => (w, ns, es) else none
noncomputable def fD (f : FormI) : D := formD f.1 f.2
noncomputable def formsD (fs : List FormI) : D := .tup (fs.map fD)
noncomputable def edgeD (e : EdgeI) : D := .tup [.int e.1, formsD e.2.1, .int e.2.2]
noncomputable def frameD (f : FrameI) : D := .tup [.int f.1, .int f.2.1, formsD f.2.2]
noncomputable def deedD (d : DeedI) : D := .tup (.str d.1 :: (d.2.1.map D.int ++ d.2.2.map edgeD))
/-! ### slices from and to any place -/
theorem cut_fromA {xs : List V} {k : Nat} : cutV xs (some (k : Int)) none = xs.drop k := by
  rcases Nat.le_total k xs.length with h | h
  · exact cut_from h
  · unfold cutV
    have h1 : HT.sIx xs.length 0 (some (k : Int)) = xs.length := by
      rw [sIx_nat]
      omega
    rw [h1, List.drop_eq_nil_of_le h, List.drop_length]
    simp
theorem cut_toA {xs : List V} {k : Nat} : cutV xs none (some (k : Int)) = xs.take k := by
  rcases Nat.le_total k xs.length with h | h
  · exact cut_to h
  · unfold cutV
    have h1 : HT.sIx xs.length xs.length (some (k : Int)) = xs.length := by
      rw [sIx_nat]
      omega
    have h2 : HT.sIx xs.length 0 none = 0 := rfl
    rw [h1, h2, List.take_of_length_le h]
    simp
theorem nums_two {ws : List Str} {ns : List Int} (h : numsP 2 ws = some ns) : ∃ a b, ns = [a, b] := by
  unfold numsP at h
  split at h
  · next e =>
    have hl := (mapM_some h).1
    rw [List.length_drop, e] at hl
    rcases ns with _ | ⟨a, _ | ⟨b, _ | ⟨c, r⟩⟩⟩
    · simp at hl
    · simp at hl
    · exact ⟨a, b, rfl⟩
    · simp at hl
  · cases h
noncomputable def isFrame (ws : List Str) : Bool := ws.head? == some frameW
noncomputable def standQ (many : Int) (fr : List (List Str)) : List (List Str) → Option StandI
  | [] => none
  | dw :: lines => both (fun ps d => (many, ps, d)) (fr.mapM frameP) (deedP dw lines)
noncomputable def standP : List (List Str) → Option StandI
  | [] => none
  | g0 :: rest => match numsP 1 g0 with
    | none => none
    | some ns => standQ (ns.headD 0) (rest.takeWhile isFrame) (rest.dropWhile isFrame)
noncomputable def addG (acc : List (List (List Str))) (ws : List Str) : List (List (List Str)) := match acc.getLast? with
  | some g => acc.dropLast ++ [g ++ [ws]]
  | none => []
theorem addG_snoc {acc : List (List (List Str))} {g : List (List Str)} {ws : List Str} : addG (acc ++ [g]) ws = acc ++ [g ++ [ws]] := by
  unfold addG
  rw [List.getLast?_concat, List.dropLast_concat]
noncomputable def groupW (acc : List (List (List Str))) (ws : List Str) : Option (List (List (List Str))) := if ws.head? = some standW then some (acc ++ [[ws]]) else if acc = [] then none else some (addG acc ws)
noncomputable def groupP (acc : List (List (List Str))) (line : Str) : Option (List (List (List Str))) := groupW acc (Txt.split line blank)
noncomputable def groupsP (z : Str) : Option (List (List (List Str))) := (Txt.split z feed).foldlM groupP []
noncomputable def laneP (z : Str) : Option (List StandI) := (groupsP z).bind fun gs => gs.mapM standP
end L2

end
section
set_option Elab.async false
set_option linter.all false
set_option maxRecDepth 100000
set_option maxHeartbeats 4000000
namespace L2
open PySem PySem.Spec PyProof.Rows PySem.Builtin PySem.Builtin.Str PySem.NumText
section
variable {X : Cx}
end
/-! ### texts of ascii signs -/
noncomputable def isAsc (z : Str) : Prop := z.cps.all (· < 128) = true
theorem asc_mem {z : Str} : isAsc z ↔ ∀ c ∈ cs z, c < 128 := by
  unfold isAsc
  rw [← Array.all_toList, List.all_eq_true]
  simp
theorem asc_app {x y : Str} (h1 : isAsc x) (h2 : isAsc y) : isAsc (x ++ y) := asc_mem.mpr fun c hc => by
  rw [cs_app] at hc
  rcases List.mem_append.mp hc with z | z
  · exact asc_mem.mp h1 c z
  · exact asc_mem.mp h2 c z
theorem slice_mem {z : Str} {l u : Option Int} : ∀ c ∈ cs (Txt.slice z l u), c ∈ cs z := by
  intro c hc
  unfold Txt.slice at hc
  split at hc
  · exact hc
  · obtain ⟨i, _, e⟩ := List.mem_filterMap.mp (show c ∈ List.filterMap _ _ from hc)
    exact Array.mem_toList_iff.mpr (Array.mem_of_getElem? e)
theorem asc_slice {z : Str} {l u : Option Int} (h : isAsc z) : isAsc (Txt.slice z l u) := asc_mem.mpr fun c hc => asc_mem.mp h c (slice_mem c hc)
theorem rep_list (a : Array Nat) : ∀ (k : Nat) (acc : Array Nat), ((List.replicate k a).foldl (· ++ ·) acc).toList = acc.toList ++ (List.replicate k a.toList).flatten
  | 0, acc => by simp
  | k + 1, acc => by
    rw [List.replicate_succ, List.foldl_cons, rep_list a k (acc ++ a), List.replicate_succ, List.flatten_cons]
    simp
theorem rep_flat_len (l : List Nat) : ∀ k, ((List.replicate k l).flatten).length = k * l.length
  | 0 => by simp
  | k + 1 => by
    rw [List.replicate_succ, List.flatten_cons, List.length_append, rep_flat_len l k, Nat.succ_mul]
    omega
theorem rep_cs (z : Str) (n : Int) : (∀ c ∈ cs (repS z n), c ∈ cs z) ∧ (repS z n).length ≤ n.toNat * z.length := by
  unfold repS
  split
  · exact ⟨fun c hc => (by cases hc), Nat.zero_le _⟩
  · next h1 =>
    split
    · refine ⟨fun c hc => hc, ?_⟩
      have : 1 ≤ n.toNat := by omega
      calc z.length = 1 * z.length := (Nat.one_mul _).symm
        _ ≤ n.toNat * z.length := Nat.mul_le_mul_right _ this
    · have e : cs (⟨(List.replicate n.toNat z.cps).foldl (· ++ ·) #[]⟩ : Str) = (List.replicate n.toNat (cs z)).flatten := by
        show ((List.replicate n.toNat z.cps).foldl (· ++ ·) #[]).toList = _
        rw [rep_list]
        simp
      refine ⟨fun c hc => ?_, ?_⟩
      · rw [e] at hc
        obtain ⟨l, hl, hc⟩ := List.mem_flatten.mp hc
        rw [(List.mem_replicate.mp hl).2] at hc
        exact hc
      · rw [← cs_len, e, rep_flat_len, cs_len]
        exact Nat.le_refl _
theorem asc_rep {z : Str} {n : Int} (h : isAsc z) : isAsc (repS z n) := asc_mem.mpr fun c hc => asc_mem.mp h c ((rep_cs z n).1 c hc)
theorem rd_repS {z : Str} {n : Int} {H : Hp} {Q : VK} (h1 : -1000 ≤ n) (h2 : n ≤ 1000) (h3 : z.length ≤ 1000) (q : (repS z n).length ≤ n.toNat * z.length → Q (.str (repS z n)) H) : rRepS (.str z) (.int n) H Q := by
  have h4 := (rep_cs z n).2
  refine ⟨z, n, rfl, rfl, h1, h2, h3, ?_, q h4⟩
  have h5 : n.toNat * z.length ≤ 1000 * 1000 := Nat.mul_le_mul (by omega) h3
  rw [PySem.sizeLine_eq]
  omega
theorem asc_join {s : Str} (hs : isAsc s) : ∀ {zs : List Str}, (∀ z ∈ zs, isAsc z) → isAsc (Str.join s zs)
  | [], _ => asc_mem.mpr fun c hc => (by cases hc)
  | [x], h => h x List.mem_cons_self
  | x :: y :: r, h => by
    show isAsc (x ++ s ++ Str.join s (y :: r))
    exact asc_app (asc_app (h x List.mem_cons_self) hs) (asc_join hs fun z hz => h z (List.mem_cons_of_mem _ hz))
theorem ix_to {a : Int} {n : Nat} (h : 0 ≤ a) : (strSliceIndices none (some a) 1 n).length ≤ a.toNat := by
  unfold strSliceIndices sliceRange
  simp only [show (1 : Int) > 0 by decide, if_true, List.length_map, List.length_range]
  split <;> (try split) <;> (try split) <;> (try simp only [Int.ediv_one]) <;> omega
theorem ix_from {a : Int} {n : Nat} (h : 0 ≤ a) : (strSliceIndices (some a) none 1 n).length ≤ n - a.toNat := by
  unfold strSliceIndices sliceRange
  simp only [show (1 : Int) > 0 by decide, if_true, List.length_map, List.length_range]
  split <;> (try split) <;> (try split) <;> (try simp only [Int.ediv_one]) <;> omega
theorem sl_len {z : Str} {l u : Option Int} {k : Nat} (h : (strSliceIndices l u 1 z.length).length ≤ k) : (Txt.slice z l u).length ≤ k := by
  unfold Txt.slice
  split
  · next e =>
    have : (strSliceIndices l u 1 z.length).length = z.length := by simpa using e
    omega
  · show (List.filterMap _ (strSliceIndices l u 1 z.length)).toArray.size ≤ k
    rw [List.size_toArray]
    exact Nat.le_trans (List.length_filterMap_le _ _) h
theorem rd_slTo {z : Str} {a : Int} {H : Hp} {Q : VK} (h : z.length ≤ 1000000) (ha : 0 ≤ a) (q : (Txt.slice z none (some a)).length ≤ a.toNat → Q (.str (Txt.slice z none (some a))) H) : rSlS (.str z) none (some a) H Q :=
  ⟨z, rfl, by rw [PySem.sizeLine_eq]; omega, q (sl_len (ix_to ha))⟩
theorem rd_slFrom {z : Str} {a : Int} {H : Hp} {Q : VK} (h : z.length ≤ 1000000) (ha : 0 ≤ a) (q : (Txt.slice z (some a) none).length ≤ z.length - a.toNat → Q (.str (Txt.slice z (some a) none)) H) : rSlS (.str z) (some a) none H Q :=
  ⟨z, rfl, by rw [PySem.sizeLine_eq]; omega, q (sl_len (ix_from ha))⟩
end L2

end
section
set_option Elab.async false
set_option linter.all false
set_option maxRecDepth 100000
set_option maxHeartbeats 4000000
namespace L3
open PySem Builtin Builtin.Str
/-! ### zip of two tuples -/
section
variable {prog : Program} {w : World} {A : Around} {E : Value → Shared → Prop} {s : Shared}
end
end L3

end
section
set_option Elab.async false
set_option linter.all false
set_option maxRecDepth 100000
set_option maxHeartbeats 4000000
namespace L2
open PySem PySem.Spec PyProof.Rows
/-! ### for and comprehensions over zip of two tuples -/
section
variable {X : Cx} {tg : Expr}
end
end L2

end
section
set_option Elab.async false
set_option linter.all false
set_option maxRecDepth 100000
set_option maxHeartbeats 4000000
namespace L2
open PySem PySem.Spec PyProof.Rows
section
variable {X : Cx} {pos : Pos}
end
end L2

end
section
set_option Elab.async false
set_option linter.all false
set_option maxRecDepth 100000
set_option maxHeartbeats 4000000
namespace L2
open PySem PySem.Spec PyProof.Rows
section
variable {X : Cx} {pos : Pos} {es : List Expr} {te : TE} {t : TA}
theorem pa_consL {l : List Expr} (ha : PE X (.List l pos) te) (hr : PA X es t) : PA X (.List l pos :: es) (tCons te t) := pa_cons ha hr rfl
theorem pa_consT {l : List Expr} {k : Nat} (ha : PE X (.Tuple l k pos) te) (hr : PA X es t) : PA X (.Tuple l k pos :: es) (tCons te t) := pa_cons ha hr rfl
theorem pa_consB {a b : Expr} {op : Operator} (ha : PE X (.BinOp a op b pos) te) (hr : PA X es t) : PA X (.BinOp a op b pos :: es) (tCons te t) := pa_cons ha hr rfl
theorem pa_consC {f : Expr} {as : List Expr} {ks} (ha : PE X (.Call f as ks pos) te) (hr : PA X es t) : PA X (.Call f as ks pos :: es) (tCons te t) := pa_cons ha hr rfl
theorem pa_consM {e : Expr} {gs} {sc} (ha : PE X (.ListComp e gs sc pos) te) (hr : PA X es t) : PA X (.ListComp e gs sc pos :: es) (tCons te t) := pa_cons ha hr rfl
theorem pa_consS {a b : Expr} (ha : PE X (.Subscript a b pos) te) (hr : PA X es t) : PA X (.Subscript a b pos :: es) (tCons te t) := pa_cons ha hr rfl
theorem pa_consN {x : Str} (ha : PE X (.Name x pos) te) (hr : PA X es t) : PA X (.Name x pos :: es) (tCons te t) := pa_cons ha hr rfl
theorem pa_consK {c : Const} {k : Nat} (ha : PE X (.Constant c k pos) te) (hr : PA X es t) : PA X (.Constant c k pos :: es) (tCons te t) := pa_cons ha hr rfl
theorem pa_consO {o : BoolOp} {cs : List Expr} (ha : PE X (.BoolOp o cs pos) te) (hr : PA X es t) : PA X (.BoolOp o cs pos :: es) (tCons te t) := pa_cons ha hr rfl
theorem ps_setL {l : List Expr} {p : Pos} {i : Nat} {x : Str} {pos' : Pos} (hN : X.N.Nodup) (hi : X.N[i]? = some x) (hx : Loc X.env.scope x) (he : PE X (.List l p) te) (hf : X.fn x = true ∨ X.env.scope.names.lookup x = some .local := by first | exact .inl rfl | exact .inr rfl | assumption) : PS X (.Assign [.Name x pos'] (.List l p) pos) (tAsg te (gName i)) := ps_set hN hi hx he rfl hf
theorem ps_setT {l : List Expr} {k : Nat} {p : Pos} {i : Nat} {x : Str} {pos' : Pos} (hN : X.N.Nodup) (hi : X.N[i]? = some x) (hx : Loc X.env.scope x) (he : PE X (.Tuple l k p) te) (hf : X.fn x = true ∨ X.env.scope.names.lookup x = some .local := by first | exact .inl rfl | exact .inr rfl | assumption) : PS X (.Assign [.Name x pos'] (.Tuple l k p) pos) (tAsg te (gName i)) := ps_set hN hi hx he rfl hf
theorem ps_setB {a b : Expr} {op : Operator} {p : Pos} {i : Nat} {x : Str} {pos' : Pos} (hN : X.N.Nodup) (hi : X.N[i]? = some x) (hx : Loc X.env.scope x) (he : PE X (.BinOp a op b p) te) (hf : X.fn x = true ∨ X.env.scope.names.lookup x = some .local := by first | exact .inl rfl | exact .inr rfl | assumption) : PS X (.Assign [.Name x pos'] (.BinOp a op b p) pos) (tAsg te (gName i)) := ps_set hN hi hx he rfl hf
theorem ps_setC {f : Expr} {as : List Expr} {ks} {p : Pos} {i : Nat} {x : Str} {pos' : Pos} (hN : X.N.Nodup) (hi : X.N[i]? = some x) (hx : Loc X.env.scope x) (he : PE X (.Call f as ks p) te) (hf : X.fn x = true ∨ X.env.scope.names.lookup x = some .local := by first | exact .inl rfl | exact .inr rfl | assumption) : PS X (.Assign [.Name x pos'] (.Call f as ks p) pos) (tAsg te (gName i)) := ps_set hN hi hx he rfl hf
theorem ps_setS {a b : Expr} {p : Pos} {i : Nat} {x : Str} {pos' : Pos} (hN : X.N.Nodup) (hi : X.N[i]? = some x) (hx : Loc X.env.scope x) (he : PE X (.Subscript a b p) te) (hf : X.fn x = true ∨ X.env.scope.names.lookup x = some .local := by first | exact .inl rfl | exact .inr rfl | assumption) : PS X (.Assign [.Name x pos'] (.Subscript a b p) pos) (tAsg te (gName i)) := ps_set hN hi hx he rfl hf
end
end L2

end
section
set_option Elab.async false
set_option linter.all false
set_option maxRecDepth 100000
set_option maxHeartbeats 4000000
namespace L2
open PySem PySem.Spec PyProof.Rows
section
variable {X : Cx} {tg : Expr}
/-! ### a list or a tuple, walked -/
noncomputable def iAny (K : PySem.W.Frag) (tl : TE) : TI := fun σ H R => tl σ H fun x H1 => itK K R x H1 ∨ ilK K R x H1
theorem pi_any {l : Expr} {tl : TE} (hl : PE X l tl) : PI X tg l (iAny X.K tl) := by
  intro pins s σ H R I h
  refine thn (hl pins s σ H _ I h) fun v s1 ⟨x, H1, I1, r1, q1⟩ => ?_
  have hf : ∀ b ∈ [s1.heap.objs.size], FpOk X pins H1 b := fun b hb => by
    rw [List.mem_singleton.mp hb]
    exact I1.fpOk (Nat.le_refl _) (I1.hok.fresh (Nat.le_refl _))
  rcases q1 with ⟨a, rfl, ⟨xs, hq⟩, q⟩ | ⟨a, rfl, ⟨xs, hq⟩, q⟩
  · cases r1
    obtain ⟨its, rv, p, hz⟩ := I1.tuple hq
    exact wpAny_pyIter_tuple (show s1.heap.IsTuple a its.toArray from p) ⟨_, _, _, _, H1, rfl, I1.kept (t' := s1.toks) fun b o e => Heap.get?_push_of_some _ e, turn_tuple a _, ⟨_, Heap.get?_push_size _ rfl, rfl, rfl⟩, hf, q⟩
  · cases r1
    obtain ⟨its, rv, p, hz⟩ := I1.list hq
    exact wpAny_pyIter_list p.isList ⟨_, _, _, _, H1, rfl, I1.kept (t' := s1.toks) fun b o e => Heap.get?_push_of_some _ e, turn_list a _, ⟨_, Heap.get?_push_size _ rfl, rfl, rfl⟩, hf, q⟩
theorem k_pi_any {K : PySem.W.Frag} {l : Expr} {tl : TE} (h : X.K = K) (hl : PE X l tl) : PI X tg l (iAny K tl) := h ▸ pi_any hl
theorem rd_iany {K : PySem.W.Frag} {tl : TE} {σ : St} {H : Hp} {R : It → Hp → Prop} (h : tl σ H fun x H1 => itK K R x H1 ∨ ilK K R x H1) : iAny K tl σ H R := h
/-! ### two numbers with a text between them -/
noncomputable def fmK (z : Str) (Q : VK) (i j : Int) (H : Hp) : Prop := Q (.str (toString i ++ z ++ toString j)) H
noncomputable def tFmt (z : Str) (ta tb : TE) : TE := fun σ H Q => ta σ H fun x H1 => ∃ i : Int, x = .int i ∧ i.natAbs.log2 < 1920 ∧ (toString i : Str).length ≤ 1000 ∧ tb σ H1 fun y H2 => ∃ j : Int, y = .int j ∧ j.natAbs.log2 < 1920 ∧ (toString j : Str).length ≤ 1000 ∧ fmK z Q i j H2
theorem emp_app (x : Str) : Str.empty ++ x = x := cs_inj (by rw [cs_app]; rfl)
theorem pe_fmt {a b : Expr} {ta tb : TE} {z : Str} {k : Nat} {p1 p2 p3 pos : Pos} (hz : z.length ≤ 1000) (ha : PE X a ta) (hb : PE X b tb) : PE X (.JoinedStr [.FormattedValue a (-1) none p1, .Constant (.str z) k p2, .FormattedValue b (-1) none p3] pos) (tFmt z ta tb) := by
  intro pins s σ H Q I h
  refine wpAny_JoinedStr ?_
  show wpAny _ _ (eval (.FormattedValue a (-1) none p1) X.env) _ _ s
  refine wpAny_FormattedValue_plain (thn (ha pins s σ H _ I h) fun v s1 ⟨x, H1, I1, r1, i, e1, hi, li, q1⟩ => ?_)
  subst e1
  obtain ⟨t, rfl⟩ := r1
  refine wpAny_formatField_int hi ⟨_, _, rfl, ?_, ?_⟩
  · rw [emp_app, PySem.sizeLine_eq]
    omega
  show wpAny _ _ (eval (.Constant (.str z) k p2) X.env) _ _ _
  refine wpAny_Constant_str ⟨_, _, rfl, ?_, ?_⟩
  · rw [emp_app, len_app, PySem.sizeLine_eq]
    omega
  show wpAny _ _ (eval (.FormattedValue b (-1) none p3) X.env) _ _ _
  refine wpAny_FormattedValue_plain (thn (hb pins _ σ H1 _ ((I1.tok _).tok _) q1) fun v s2 ⟨y, H2, I2, r2, j, e2, hj, lj, q2⟩ => ?_)
  subst e2
  obtain ⟨t', rfl⟩ := r2
  refine wpAny_formatField_int hj ⟨_, _, rfl, ?_, ?_, ?_⟩
  · rw [emp_app, len_app, len_app, PySem.sizeLine_eq]
    omega
  · rw [emp_app, len_app, len_app, PySem.sizeLine_eq]
    omega
  · refine ⟨.str _, H2, (I2.tok _).tok _, ⟨_, rfl⟩, ?_⟩
    rw [emp_app]
    exact q2
theorem rd_fmt {z : Str} {ta tb : TE} {σ : St} {H : Hp} {Q : VK} (h : ta σ H fun x H1 => ∃ i : Int, x = .int i ∧ i.natAbs.log2 < 1920 ∧ (toString i : Str).length ≤ 1000 ∧ tb σ H1 fun y H2 => ∃ j : Int, y = .int j ∧ j.natAbs.log2 < 1920 ∧ (toString j : Str).length ≤ 1000 ∧ fmK z Q i j H2) : tFmt z ta tb σ H Q := h
end
end L2

end
section
set_option Elab.async false
set_option linter.all false
set_option maxRecDepth 100000
set_option maxHeartbeats 4000000
namespace L2
open PySem PySem.Spec PyProof.Rows PySem.Builtin PySem.Builtin.Str PySem.NumText
/-! ### numbers of at most three hundred figures; lanes as texts: showing -/
noncomputable def Sm (n : Int) : Prop := n.natAbs < 10 ^ 300
theorem sm_len {n : Int} (h : Sm n) : (numS n).length ≤ 301 := by
  rw [← cs_len]
  unfold Sm at h
  generalize hB : (10 : Nat) ^ 300 = B at h
  rcases num_cases n with ⟨m, rfl, e⟩ | ⟨m, _, rfl, e⟩
  · rw [e]
    have := figs_len 300 m (by decide) (by rw [hB]; omega)
    omega
  · rw [e]
    have := figs_len 300 m (by decide) (by rw [hB]; omega)
    show _ + 1 ≤ _
    omega
theorem sm_log {n : Int} (h : Sm n) : n.natAbs.log2 < 1920 := by
  unfold Sm at h
  by_cases z : n.natAbs = 0
  · rw [z]; decide
  · rw [Nat.log2_lt z]
    refine Nat.lt_of_lt_of_le h (Nat.le_trans (Nat.pow_le_pow_left (by decide : 10 ≤ 2 ^ 4) 300) ?_)
    rw [← Nat.pow_mul]
    exact Nat.pow_le_pow_right (by decide) (by decide)
noncomputable def pairT (q : Int × Int) : Str := numS q.1 ++ colon ++ numS q.2
noncomputable def fT (f : FormI) : Str := Str.join semi (numS f.1 :: f.2.map pairT)
noncomputable def formsT (w : Str) (a b : Int) (fs : List FormI) : Str := Str.join blank (rowT w [a, b] :: fs.map fT)
noncomputable def standL (st : StandI) : List Str := rowT standW [st.1] :: (st.2.1.map (fun f => formsT frameW f.1 f.2.1 f.2.2) ++ (rowT st.2.2.1 st.2.2.2.1 :: st.2.2.2.2.map fun e => formsT edgeW e.1 e.2.2 e.2.1))
noncomputable def laneT (l : List StandI) : Str := Str.join feed (l.map fun st => Str.join feed (standL st))
/-- forms whose numbers are such -/
noncomputable def FmOk (f : FormI) : Prop := Sm f.1 ∧ ∀ q ∈ f.2, Sm q.1 ∧ Sm q.2
end L2

end
section
set_option Elab.async false
set_option linter.all false
set_option maxRecDepth 100000
set_option maxHeartbeats 4000000
namespace L2
open PySem PySem.Spec PyProof.Rows PySem.Builtin PySem.Builtin.Str PySem.NumText
/-! ### lanes: what is read is shown as it was, and what is shown is read -/
theorem whole_back3 {z : Str} {n : Int} (h : wholeP 300 z = some n) : numS n = z ∧ Sm n := by
  unfold wholeP at h
  split at h
  · next hc =>
    obtain ⟨⟨h1, h300⟩, h2⟩ := hc
    have hd := allFig.mp h2
    have hl := cs_len z
    split at h
    · cases h
    · next hz =>
      unfold figT at h1 h300 hd hz
      split at h1
      · next e =>
        rw [if_pos e] at h300 hd hz
        cases ez : cs z with
        | nil => rw [ez] at e; cases e
        | cons c r =>
          rw [ez] at e h1 h300 hd hl hz
          cases e
          have hr : List.drop 1 (45 :: r) = r := rfl
          rw [hr] at h1 h300 hd hz
          simp only [List.length_cons] at hl
          have hne : r ≠ [] := fun z => by rw [z] at h1; exact absurd h1 (by decide)
          rw [intText_neg ez hd hne (by omega)] at h
          have h := Option.some.inj h
          have hh : r.head? ≠ some 48 := fun q => hz ⟨q, fun w => by cases w⟩
          have fb := figs_back _ r rfl hd hne (.inl hh)
          have pos : 0 < digitsVal r := by
            rcases Nat.eq_zero_or_pos (digitsVal r) with z | z
            · rw [z] at fb
              exact absurd (show r.head? = some 48 by rw [← fb]; decide) hh
            · exact z
          have lt := val_lt _ r rfl hd
          have le : (10 : Nat) ^ r.length ≤ 10 ^ 300 := Nat.pow_le_pow_right (by decide) h300
          refine ⟨cs_inj ?_, ?_⟩
          · rcases num_cases n with ⟨m, e1, e2⟩ | ⟨m, hm, e1, e2⟩
            · omega
            · have : m = digitsVal r := by omega
              rw [e2, this, fb, ez]
          · unfold Sm
            have : n.natAbs = digitsVal r := by omega
            rw [this]
            exact Nat.lt_of_lt_of_le lt le
      · next e =>
        rw [if_neg e] at h300 hd hz
        have hne : cs z ≠ [] := fun z => by rw [z] at h1; exact absurd h1 (by decide)
        rw [intText_digits hd hne (by omega)] at h
        have h := Option.some.inj h
        have hh : (cs z).head? ≠ some 48 ∨ cs z = [48] := by
          by_cases q : (cs z).head? = some 48
          · by_cases w : cs z = [48]
            · exact .inr w
            · exact absurd ⟨q, w⟩ hz
          · exact .inl q
        have h : ((digitsVal (cs z) : Nat) : Int) = n := h
        have fb := figs_back _ (cs z) rfl hd hne hh
        have lt := val_lt _ (cs z) rfl hd
        have le : (10 : Nat) ^ (cs z).length ≤ 10 ^ 300 := Nat.pow_le_pow_right (by decide) h300
        refine ⟨cs_inj ?_, ?_⟩
        · rcases num_cases n with ⟨m, e1, e2⟩ | ⟨m, hm, e1, e2⟩
          · have : m = digitsVal (cs z) := by omega
            rw [e2, this, fb]
          · omega
        · unfold Sm
          have : n.natAbs = digitsVal (cs z) := by omega
          rw [this]
          exact Nat.lt_of_lt_of_le lt le
  · cases h
theorem whole_num3 {n : Int} (h : Sm n) : wholeP 300 (numS n) = some n := by
  obtain ⟨m, em, ef⟩ := fig_num n
  have hl := figs_len 300 m (by decide) (by rw [← em]; exact h)
  have hp : 1 ≤ (figs m).length := List.length_pos_iff.mpr (figs_ne m)
  unfold wholeP
  rw [ef, if_pos ⟨⟨hp, hl⟩, allFig.mpr (figs_digits m)⟩]
  have hx : ¬ ((figs m).head? = some 48 ∧ cs (numS n) ≠ [48]) := by
    rintro ⟨h1, h2⟩
    by_cases z : m = 0
    · subst z
      apply h2
      obtain rfl : n = 0 := by omega
      decide
    · obtain ⟨c, r, e, hc⟩ := figs_head m (Nat.pos_of_ne_zero z)
      rw [e] at h1
      cases h1
      exact hc rfl
  rw [if_neg hx]
  have hs := sm_len h
  rcases num_cases n with ⟨k, rfl, e⟩ | ⟨k, hk, rfl, e⟩
  · have q := intText_digits (x := numS (k : Int)) (by show AllDigits (cs _); rw [e]; exact figs_digits k) (by show cs _ ≠ []; rw [e]; exact figs_ne k) (by omega)
    rw [q]
    show some (((digitsVal (cs (numS (k : Int))) : Nat) : Int)) = _
    rw [e, figs_val]
  · rw [intText_neg (x := numS (-(k : Int))) e (figs_digits k) (figs_ne k) (by omega), figs_val]
theorem jn_size {c : Nat} : ∀ {ps : List (List Nat)}, ps ≠ [] → (jn c ps).length + 1 = (ps.map (·.length)).sum + ps.length
  | [], h => absurd rfl h
  | [x], _ => by show x.length + 1 = (x.length + 0) + 1; omega
  | x :: y :: r, _ => by
    have := jn_size (c := c) (ps := y :: r) (List.cons_ne_nil _ _)
    show (x ++ c :: jn c (y :: r)).length + 1 = (x.length + ((y :: r).map (·.length)).sum) + ((y :: r).length + 1)
    rw [List.length_append, List.length_cons]
    omega
theorem join_size {c : Nat} {ps : List Str} (h : ps ≠ []) : (Str.join ⟨#[c]⟩ ps).length + 1 = (ps.map (·.length)).sum + ps.length := by
  rw [← cs_len, cs_join, jn_size (fun z => h (List.map_eq_nil_iff.mp z)), List.length_map, List.map_map]
  congr 2
theorem mapM_back {α β γ : Type} {f : α → Option β} {g : α → γ} {k : β → γ} {ok : β → Prop} : ∀ {l : List α} {r : List β}, (∀ a ∈ l, ∀ b, f a = some b → k b = g a ∧ ok b) → l.mapM f = some r → r.map k = l.map g ∧ ∀ b ∈ r, ok b
  | [], r, _, h => by
    cases h
    exact ⟨rfl, fun b hb => by cases hb⟩
  | x :: l, r, hf, h => by
    rw [List.mapM_cons] at h
    cases ex : f x with
    | none => rw [ex] at h; cases h
    | some y =>
      rw [ex] at h
      cases el : l.mapM f with
      | none => rw [el] at h; cases h
      | some ys =>
        rw [el] at h
        cases h
        obtain ⟨h1, h2⟩ := mapM_back (fun a ha => hf a (List.mem_cons_of_mem _ ha)) el
        obtain ⟨e1, e2⟩ := hf x List.mem_cons_self y ex
        refine ⟨by rw [List.map_cons, List.map_cons, h1, e1], fun b hb => ?_⟩
        rcases List.mem_cons.mp hb with rfl | hb
        · exact e2
        · exact h2 b hb
theorem mapM_forth {α β : Type} {f : α → Option β} {g : β → α} : ∀ {r : List β}, (∀ b ∈ r, f (g b) = some b) → (r.map g).mapM f = some r
  | [], _ => rfl
  | b :: r, h => by
    rw [List.map_cons, List.mapM_cons, h b List.mem_cons_self, mapM_forth fun x hx => h x (List.mem_cons_of_mem _ hx)]
    rfl
theorem both_some {α β γ : Type} {f : α → β → γ} {x : Option α} {y : Option β} {r : γ} (h : both f x y = some r) : ∃ a b, x = some a ∧ y = some b ∧ r = f a b := by
  cases x with
  | none => cases y <;> cases h
  | some a =>
    cases y with
    | none => cases h
    | some b => cases h; exact ⟨a, b, rfl, rfl, rfl⟩
theorem join_one (s x : Str) : Str.join s [x] = x := rfl
theorem join_cons (s x : Str) {l : List Str} (h : l ≠ []) : Str.join s (x :: l) = x ++ s ++ Str.join s l := by
  have := join_two s (a := [x]) (b := l) (List.cons_ne_nil _ _) h
  rw [join_one] at this
  exact this
theorem pair_back {z : Str} {q : Int × Int} (h : pairP z = some q) : pairT q = z ∧ Sm q.1 ∧ Sm q.2 := by
  unfold pairP at h
  have jl := StrLaws.join_split z colon
  rcases es : Txt.split z colon with _ | ⟨a, _ | ⟨b, _ | ⟨c, r⟩⟩⟩
  · rw [es] at h; cases h
  · rw [es] at h; cases h
  · rw [es] at h jl
    obtain ⟨x, y, e1, e2, rfl⟩ := both_some h
    obtain ⟨n1, s1⟩ := whole_back3 e1
    obtain ⟨n2, s2⟩ := whole_back3 e2
    refine ⟨?_, s1, s2⟩
    unfold pairT
    rw [n1, n2]
    exact jl
  · rw [es] at h; cases h
theorem form_back {z : Str} {f : FormI} (h : formP z = some f) : fT f = z ∧ FmOk f := by
  unfold formP at h
  have jl := StrLaws.join_split z semi
  cases es : Txt.split z semi with
  | nil => rw [es] at h; cases h
  | cons p ps =>
    rw [es] at h jl
    obtain ⟨x, y, e1, e2, rfl⟩ := both_some h
    obtain ⟨n1, s1⟩ := whole_back3 e1
    obtain ⟨n2, s2⟩ := mapM_back (g := _root_.id) (k := pairT) (ok := fun q => Sm q.1 ∧ Sm q.2) (fun a _ b e => pair_back e) e2
    refine ⟨?_, s1, s2⟩
    unfold fT
    rw [n1, n2, List.map_id]
    exact jl
theorem forms_back {ws : List Str} {fs : List FormI} (h : formsP ws = some fs) : fs.map fT = ws ∧ ∀ f ∈ fs, FmOk f := by
  obtain ⟨h1, h2⟩ := mapM_back (g := _root_.id) (k := fT) (ok := FmOk) (fun a _ b e => form_back e) h
  rw [List.map_id] at h1
  exact ⟨h1, h2⟩
theorem numsP_back {k : Nat} {ws : List Str} {ns : List Int} (h : numsP k ws = some ns) : ∃ w, ws = w :: ns.map numS ∧ ns.length = k ∧ ∀ n ∈ ns, Sm n := by
  unfold numsP at h
  split at h
  · next e =>
    obtain ⟨h1, h2⟩ := mapM_back (g := _root_.id) (k := numS) (ok := Sm) (fun a _ b e => whole_back3 e) h
    have hl := (mapM_some h).1
    rw [List.map_id] at h1
    rw [List.length_drop, e] at hl
    cases ws with
    | nil => cases e
    | cons w ws => exact ⟨w, by rw [h1]; rfl, by omega, h2⟩
  · cases h
theorem forms_flat (w : Str) (a b : Int) (fs : List FormI) : formsT w a b fs = Str.join blank (w :: numS a :: numS b :: fs.map fT) := by
  unfold formsT rowT
  cases hf : fs.map fT with
  | nil => rfl
  | cons x l =>
    rw [join_cons _ _ (List.cons_ne_nil _ _), show w :: numS a :: numS b :: x :: l = (w :: [a, b].map numS) ++ (x :: l) from rfl, join_two _ (List.cons_ne_nil _ _) (List.cons_ne_nil _ _)]
/-- three words and forms -/
theorem line_back3 {ws : List Str} {ns : List Int} {fs : List FormI} (h1 : numsP 2 (ws.take 3) = some ns) (h2 : formsP (ws.drop 3) = some fs) : ∃ w a b, ns = [a, b] ∧ ws.head? = some w ∧ Str.join blank ws = formsT w a b fs ∧ Sm a ∧ Sm b ∧ ∀ f ∈ fs, FmOk f := by
  obtain ⟨a, b, rfl⟩ := nums_two h1
  obtain ⟨w, e, _, sm⟩ := numsP_back h1
  obtain ⟨f1, f2⟩ := forms_back h2
  have ew : ws = w :: numS a :: numS b :: fs.map fT := by
    rw [← List.take_append_drop 3 ws, e, f1]
    rfl
  refine ⟨w, a, b, rfl, by rw [ew]; rfl, by rw [forms_flat, ← ew], sm a List.mem_cons_self, sm b (List.mem_cons_of_mem _ List.mem_cons_self), f2⟩
noncomputable def EdOk (e : EdgeI) : Prop := Sm e.1 ∧ Sm e.2.2 ∧ ∀ g ∈ e.2.1, FmOk g
noncomputable def FrOk3 (f : FrameI) : Prop := Sm f.1 ∧ Sm f.2.1 ∧ ∀ g ∈ f.2.2, FmOk g
noncomputable def edgeL (e : EdgeI) : Str := formsT edgeW e.1 e.2.2 e.2.1
noncomputable def frameL (f : FrameI) : Str := formsT frameW f.1 f.2.1 f.2.2
theorem edge_back {ws : List Str} {e : EdgeI} (h : edgeP ws = some e) : edgeL e = Str.join blank ws ∧ EdOk e := by
  unfold edgeP at h
  split at h
  · next hw =>
    obtain ⟨q, hq, h⟩ := Option.bind_eq_some_iff.mp h
    obtain ⟨ns, fs, e1, e2, rfl⟩ := both_some hq
    obtain ⟨w, a, b, rfl, eh, el, s1, s2, s3⟩ := line_back3 e1 e2
    cases h
    rw [hw] at eh
    cases eh
    exact ⟨el.symm, s1, s2, s3⟩
  · cases h
theorem frame_back {ws : List Str} {f : FrameI} (hw : isFrame ws = true) (h : frameP ws = some f) : frameL f = Str.join blank ws ∧ FrOk3 f := by
  unfold frameP at h
  obtain ⟨q, hq, h⟩ := Option.bind_eq_some_iff.mp h
  obtain ⟨ns, fs, e1, e2, rfl⟩ := both_some hq
  obtain ⟨w, a, b, rfl, eh, el, s1, s2, s3⟩ := line_back3 e1 e2
  cases h
  unfold isFrame at hw
  rw [eh] at hw
  have hw : w = frameW := by simpa using hw
  subst hw
  exact ⟨el.symm, s1, s2, s3⟩
theorem deed_back {ws : List Str} {lines : List (List Str)} {d : DeedI} (h : deedP ws lines = some d) : rowT d.1 d.2.1 = Str.join blank ws ∧ d.2.2.map edgeL = lines.map (Str.join blank) ∧ (∀ n ∈ d.2.1, Sm n) ∧ ∀ e ∈ d.2.2, EdOk e := by
  unfold deedP at h
  cases ws with
  | nil => cases h
  | cons w ws =>
    cases ek : deedT.lookup w with
    | none => simp only [ek] at h; cases h
    | some ks =>
      simp only [ek] at h
      cases en : numsP (ks.countP (· == numberW)) (w :: ws) with
      | none => simp only [en] at h; cases h
      | some ns =>
        simp only [en] at h
        split at h
        · obtain ⟨es, ee, rfl⟩ := Option.map_eq_some_iff.mp h
          obtain ⟨w', e1, _, sm⟩ := numsP_back en
          obtain ⟨q1, q2⟩ := mapM_back (g := Str.join blank) (k := edgeL) (ok := EdOk) (fun a _ b e => edge_back e) ee
          cases e1
          exact ⟨rfl, q1, sm, q2⟩
        · cases h
/-- a stand's lines -/
theorem stand_back {g0 : List Str} {rest : List (List Str)} {st : StandI} (hw : g0.head? = some standW) (h : standP (g0 :: rest) = some st) : standL st = (g0 :: rest).map (Str.join blank) ∧ Sm st.1 ∧ (∀ f ∈ st.2.1, FrOk3 f) ∧ (∀ n ∈ st.2.2.2.1, Sm n) ∧ ∀ e ∈ st.2.2.2.2, EdOk e := by
  unfold standP at h
  cases en : numsP 1 g0 with
  | none => simp only [en] at h; cases h
  | some ns =>
    simp only [en] at h
    obtain ⟨w, e1, hl, sm⟩ := numsP_back en
    obtain ⟨a, rfl⟩ : ∃ a, ns = [a] := by
      rcases ns with _ | ⟨a, _ | ⟨b, r⟩⟩
      · cases hl
      · exact ⟨a, rfl⟩
      · simp at hl
    rw [e1] at hw
    have hw : w = standW := by simpa using hw
    subst hw
    have er := List.takeWhile_append_dropWhile (p := isFrame) (l := rest)
    cases ed : rest.dropWhile isFrame with
    | nil => rw [ed] at h; cases h
    | cons dw lines =>
      rw [ed] at h er
      obtain ⟨ps, d, f1, f2, rfl⟩ := both_some h
      obtain ⟨p1, p2⟩ := mapM_back (g := Str.join blank) (k := frameL) (ok := FrOk3) (fun a ha b e => frame_back (by
        have := List.all_takeWhile (p := isFrame) (l := rest)
        exact List.all_eq_true.mp this a ha) e) f1
      obtain ⟨d1, d2, d3, d4⟩ := deed_back f2
      refine ⟨?_, sm a List.mem_cons_self, p2, d3, d4⟩
      show rowT standW [a] :: (ps.map frameL ++ (rowT d.1 d.2.1 :: d.2.2.map edgeL)) = _
      rw [← er, List.map_cons, List.map_append, List.map_cons, p1, d1, d2, e1]
      rfl
noncomputable def G0 (g : List (List Str)) : Prop := ∃ g0 r, g = g0 :: r ∧ g0.head? = some standW
theorem groups_back : ∀ {lines : List Str} {acc gs : List (List (List Str))}, lines.foldlM groupP acc = some gs → (∀ g ∈ acc, G0 g) → gs.flatten.map (Str.join blank) = acc.flatten.map (Str.join blank) ++ lines ∧ ∀ g ∈ gs, G0 g
  | [], acc, gs, h, ha => by
    cases h
    exact ⟨(List.append_nil _).symm, ha⟩
  | line :: lines, acc, gs, h, ha => by
    rw [List.foldlM_cons] at h
    cases el : groupP acc line with
    | none => rw [el] at h; cases h
    | some acc' =>
      rw [el] at h
      have h : lines.foldlM groupP acc' = some gs := h
      have jl := StrLaws.join_split line blank
      have key : acc'.flatten.map (Str.join blank) = acc.flatten.map (Str.join blank) ++ [line] ∧ ∀ g ∈ acc', G0 g := by
        unfold groupP groupW at el
        split at el
        · next hw =>
          cases el
          refine ⟨?_, fun g hg => ?_⟩
          · rw [List.flatten_append, List.map_append, List.flatten_singleton, List.map_singleton, jl]
          · rcases List.mem_append.mp hg with hg | hg
            · exact ha g hg
            · rw [List.mem_singleton.mp hg]
              exact ⟨_, _, rfl, hw⟩
        · split at el
          · cases el
          · next ne =>
            cases el
            obtain ⟨acc0, g, rfl⟩ : ∃ a d, acc = a ++ [d] := ⟨_, _, (List.dropLast_concat_getLast ne).symm⟩
            rw [addG_snoc]
            refine ⟨?_, fun g' hg' => ?_⟩
            · simp only [List.flatten_append, List.flatten_singleton, List.map_append, List.map_cons, List.map_nil, List.append_assoc, jl]
            · rcases List.mem_append.mp hg' with hg' | hg'
              · exact ha g' (List.mem_append_left _ hg')
              · rw [List.mem_singleton.mp hg']
                obtain ⟨g0, r, rfl, e⟩ := ha g (List.mem_append_right _ List.mem_cons_self)
                exact ⟨g0, _, rfl, e⟩
      obtain ⟨k1, k2⟩ := groups_back h key.2
      exact ⟨by rw [k1, key.1, List.append_assoc]; rfl, k2⟩
theorem lane_lines (l : List StandI) : laneT l = Str.join feed (l.map standL).flatten := by
  unfold laneT
  rw [← join_flat feed (ls := l.map standL) (fun x hx => by
    obtain ⟨st, _, rfl⟩ := List.mem_map.mp hx
    exact List.cons_ne_nil _ _), List.map_map]
  rfl
/-- THE OTHER WORD of lanes -/
theorem lane_back {z : Str} {sts : List StandI} (h : laneP z = some sts) : laneT sts = z ∧ ∀ st ∈ sts, Sm st.1 ∧ (∀ f ∈ st.2.1, FrOk3 f) ∧ (∀ n ∈ st.2.2.2.1, Sm n) ∧ ∀ e ∈ st.2.2.2.2, EdOk e := by
  unfold laneP at h
  obtain ⟨gs, hg, h⟩ := Option.bind_eq_some_iff.mp h
  obtain ⟨k1, k2⟩ := groups_back hg (fun d hd => by cases hd)
  obtain ⟨q1, q2⟩ := mapM_back (g := List.map (Str.join blank)) (k := standL) (ok := fun st => Sm st.1 ∧ (∀ f ∈ st.2.1, FrOk3 f) ∧ (∀ n ∈ st.2.2.2.1, Sm n) ∧ ∀ e ∈ st.2.2.2.2, EdOk e) (fun g hg' st e => by
    obtain ⟨g0, r, rfl, e0⟩ := k2 g hg'
    exact stand_back e0 e) h
  refine ⟨?_, q2⟩
  rw [lane_lines, q1, ← List.map_flatten, k1]
  exact StrLaws.join_split z feed
end L2

end
section
set_option Elab.async false
set_option linter.all false
set_option maxRecDepth 100000
set_option maxHeartbeats 4000000
namespace L2
open PySem PySem.Spec PyProof.Rows PySem.Builtin PySem.Builtin.Str PySem.NumText
/-! ### lanes: what is shown is read -/
theorem num_no {c : Nat} (n : Int) (h : c ≠ 45 ∧ (c < 48 ∨ 57 < c)) : c ∉ cs (numS n) := fun z => by
  have := num_signs n _ z
  omega
theorem pair_no {c : Nat} (q : Int × Int) (h : c ≠ 45 ∧ (c < 48 ∨ 57 < c)) (h2 : c ≠ 58) : c ∉ cs (pairT q) := by
  unfold pairT
  rw [cs_app, cs_app, colon_eq]
  intro z
  rcases List.mem_append.mp z with z | z
  · rcases List.mem_append.mp z with z | z
    · exact num_no _ h z
    · exact h2 (List.mem_singleton.mp z)
  · exact num_no _ h z
theorem pair_forth {q : Int × Int} (h : Sm q.1 ∧ Sm q.2) : pairP (pairT q) = some q := by
  unfold pairP
  have e : Txt.split (pairT q) colon = [numS q.1, numS q.2] := by
    have := split_join (c := 58) (ps := [numS q.1, numS q.2]) (List.cons_ne_nil _ _) (fun p hp => by
      rcases List.mem_cons.mp hp with rfl | hp
      · exact num_no _ (by decide)
      · rw [List.mem_singleton.mp hp]; exact num_no _ (by decide))
    rw [← colon_eq] at this
    exact this
  rw [e]
  show both Prod.mk (wholeP 300 (numS q.1)) (wholeP 300 (numS q.2)) = _
  rw [whole_num3 h.1, whole_num3 h.2]
  rfl
theorem form_forth {f : FormI} (h : FmOk f) : formP (fT f) = some f := by
  unfold formP fT
  rw [semi_eq, split_join (List.cons_ne_nil _ _)]
  · show both Prod.mk (wholeP 300 (numS f.1)) ((f.2.map pairT).mapM pairP) = _
    rw [whole_num3 h.1, mapM_forth fun q hq => pair_forth (h.2 q hq)]
    rfl
  · intro p hp
    rcases List.mem_cons.mp hp with rfl | hp
    · exact num_no _ (by decide)
    · obtain ⟨q, _, rfl⟩ := List.mem_map.mp hp
      exact pair_no _ (by decide) (by decide)
noncomputable def Wd (p : Str) : Prop := 32 ∉ cs p ∧ 10 ∉ cs p
theorem wd_num (n : Int) : Wd (numS n) := num_free n
theorem wd_form (f : FormI) : Wd (fT f) := by
  have key : ∀ c, c ≠ 45 ∧ (c < 48 ∨ 57 < c) → c ≠ 58 → c ≠ 59 → c ∉ cs (fT f) := fun c h h2 h3 => by
    unfold fT
    rw [semi_eq, cs_join]
    refine jn_free h3 fun p hp => ?_
    obtain ⟨q, hq, rfl⟩ := List.mem_map.mp hp
    rcases List.mem_cons.mp hq with rfl | hq
    · exact num_no _ h
    · obtain ⟨r, _, rfl⟩ := List.mem_map.mp hq
      exact pair_no _ h h2
  exact ⟨key 32 (by decide) (by decide) (by decide), key 10 (by decide) (by decide) (by decide)⟩
noncomputable def WLn (ws : List Str) : Prop := ws ≠ [] ∧ ∀ p ∈ ws, Wd p
theorem WLn.split {ws : List Str} (h : WLn ws) : Txt.split (Str.join blank ws) blank = ws := by
  rw [blank_eq]
  exact split_join h.1 fun p hp => (h.2 p hp).1
theorem WLn.free {ws : List Str} (h : WLn ws) : 10 ∉ cs (Str.join blank ws) := by
  rw [blank_eq, cs_join]
  refine jn_free (by decide) fun p hp => ?_
  obtain ⟨q, hq, rfl⟩ := List.mem_map.mp hp
  exact (h.2 q hq).2
noncomputable def lnG (w : Str) (a b : Int) (fs : List FormI) : List Str := w :: numS a :: numS b :: fs.map fT
theorem lnG_ok {w : Str} (hw : Wd w) (a b : Int) (fs : List FormI) : WLn (lnG w a b fs) := ⟨List.cons_ne_nil _ _, fun p hp => by
  rcases List.mem_cons.mp hp with rfl | hp
  · exact hw
  · rcases List.mem_cons.mp hp with rfl | hp
    · exact wd_num _
    · rcases List.mem_cons.mp hp with rfl | hp
      · exact wd_num _
      · obtain ⟨f, _, rfl⟩ := List.mem_map.mp hp
        exact wd_form f⟩
theorem row_ok {w : Str} (hw : Wd w) (ns : List Int) : WLn (w :: ns.map numS) := ⟨List.cons_ne_nil _ _, fun p hp => by
  rcases List.mem_cons.mp hp with rfl | hp
  · exact hw
  · obtain ⟨f, _, rfl⟩ := List.mem_map.mp hp
    exact wd_num f⟩
noncomputable def DeedF (d : DeedI) : Prop := ∃ ks, deedT.lookup d.1 = some ks ∧ d.2.1.length = ks.countP (· == numberW) ∧ d.2.2.length = ks.countP (· == edgeW)
theorem deed_word {w : Str} {ks : List Str} (h : deedT.lookup w = some ks) : Wd w ∧ w ≠ standW ∧ w ≠ frameW := by
  have hk : ∀ q ∈ deedT, (32 ∉ cs q.1 ∧ 10 ∉ cs q.1) ∧ q.1 ≠ standW ∧ q.1 ≠ frameW := by decide +kernel
  have : ∀ (l : List (Str × List Str)), l.lookup w = some ks → (w, ks) ∈ l := by
    intro l
    induction l with
    | nil => intro h; cases h
    | cons q l ih =>
      intro h
      obtain ⟨a, b⟩ := q
      rw [List.lookup_cons] at h
      split at h
      · next e => cases h; rw [beq_iff_eq.mp e]; exact List.mem_cons_self
      · exact List.mem_cons_of_mem _ (ih h)
  exact hk _ (this _ h)
structure WOk (st : StandI) : Prop where
  many : Sm st.1
  fr : ∀ f ∈ st.2.1, FrOk3 f
  nums : ∀ n ∈ st.2.2.2.1, Sm n
  eds : ∀ e ∈ st.2.2.2.2, EdOk e
  deed : DeedF st.2.2
noncomputable def standG (st : StandI) : List (List Str) := (standW :: [st.1].map numS) :: (st.2.1.map (fun f => lnG frameW f.1 f.2.1 f.2.2) ++ ((st.2.2.1 :: st.2.2.2.1.map numS) :: st.2.2.2.2.map fun e => lnG edgeW e.1 e.2.2 e.2.1))
theorem standL_G (st : StandI) : standL st = (standG st).map (Str.join blank) := by
  unfold standL standG
  simp only [List.map_cons, List.map_append, List.map_map]
  congr 1
  congr 1
  · exact List.map_congr_left fun f _ => forms_flat _ _ _ _
  · congr 1
    exact List.map_congr_left fun f _ => forms_flat _ _ _ _
theorem standG_ok {st : StandI} (h : WOk st) : ∀ ws ∈ standG st, WLn ws := by
  obtain ⟨ks, hk, _⟩ := h.deed
  intro ws hw
  rcases List.mem_cons.mp hw with rfl | hw
  · exact row_ok (by unfold Wd; decide) _
  · rcases List.mem_append.mp hw with hw | hw
    · obtain ⟨f, _, rfl⟩ := List.mem_map.mp hw
      exact lnG_ok (by unfold Wd; decide) _ _ _
    · rcases List.mem_cons.mp hw with rfl | hw
      · exact row_ok (deed_word hk).1 _
      · obtain ⟨f, _, rfl⟩ := List.mem_map.mp hw
        exact lnG_ok (by unfold Wd; decide) _ _ _
theorem nums_forth {k : Nat} {w : Str} {ns : List Int} (hl : ns.length = k) (h : ∀ n ∈ ns, Sm n) : numsP k (w :: ns.map numS) = some ns := by
  unfold numsP
  rw [if_pos (by rw [List.length_cons, List.length_map, hl])]
  exact mapM_forth fun n hn => whole_num3 (h n hn)
theorem forms_forth {fs : List FormI} (h : ∀ f ∈ fs, FmOk f) : formsP (fs.map fT) = some fs := mapM_forth fun f hf => form_forth (h f hf)
theorem two_sm {a b : Int} (h1 : Sm a) (h2 : Sm b) : ∀ n ∈ [a, b], Sm n := fun n hn => by
  rcases List.mem_cons.mp hn with rfl | hn
  · exact h1
  · rw [List.mem_singleton.mp hn]; exact h2
theorem ln_forth {w : Str} {a b : Int} {fs : List FormI} (h1 : Sm a) (h2 : Sm b) (h3 : ∀ g ∈ fs, FmOk g) : both Prod.mk (numsP 2 ((lnG w a b fs).take 3)) (formsP ((lnG w a b fs).drop 3)) = some ([a, b], fs) := by
  have e1 : (lnG w a b fs).take 3 = w :: [a, b].map numS := rfl
  have e2 : (lnG w a b fs).drop 3 = fs.map fT := rfl
  rw [e1, e2, nums_forth (k := 2) rfl (two_sm h1 h2), forms_forth h3]
  rfl
theorem edge_forth {e : EdgeI} (h : EdOk e) : edgeP (lnG edgeW e.1 e.2.2 e.2.1) = some e := by
  unfold edgeP
  rw [if_pos (show (lnG edgeW e.1 e.2.2 e.2.1).head? = some edgeW from rfl), ln_forth h.1 h.2.1 h.2.2]
  rfl
theorem frame_forth {f : FrameI} (h : FrOk3 f) : frameP (lnG frameW f.1 f.2.1 f.2.2) = some f := by
  unfold frameP
  rw [ln_forth h.1 h.2.1 h.2.2]
  rfl
theorem deed_forth {d : DeedI} (h : DeedF d) (h1 : ∀ n ∈ d.2.1, Sm n) (h2 : ∀ e ∈ d.2.2, EdOk e) : deedP (d.1 :: d.2.1.map numS) (d.2.2.map fun e => lnG edgeW e.1 e.2.2 e.2.1) = some d := by
  obtain ⟨ks, hk, hn, he⟩ := h
  unfold deedP
  simp only [hk]
  rw [nums_forth hn h1]
  simp only []
  rw [if_pos (by rw [List.length_map]; exact he), mapM_forth fun e he' => edge_forth (h2 e he')]
  rfl
theorem stand_forth {st : StandI} (h : WOk st) : standP (standG st) = some st := by
  obtain ⟨ks, hk, _⟩ := h.deed
  unfold standP standG
  simp only []
  rw [nums_forth (k := 1) (ns := [st.1]) rfl (fun n hn => by rw [List.mem_singleton.mp hn]; exact h.many)]
  have hf : ∀ a ∈ st.2.1.map (fun f => lnG frameW f.1 f.2.1 f.2.2), isFrame a = true := fun a ha => by
    obtain ⟨f, _, rfl⟩ := List.mem_map.mp ha
    rfl
  have hn : ¬ isFrame (st.2.2.1 :: st.2.2.2.1.map numS) = true := fun z => by
    have : st.2.2.1 = frameW := by simpa [isFrame] using z
    exact (deed_word hk).2.2 this
  simp only []
  rw [List.takeWhile_append_of_pos hf, List.dropWhile_append_of_pos hf, List.takeWhile_cons_of_neg hn, List.dropWhile_cons_of_neg hn, List.append_nil]
  show both _ (List.mapM frameP _) (deedP _ _) = _
  rw [mapM_forth fun f hf => frame_forth (h.fr f hf), deed_forth h.deed h.nums h.eds]
  rfl
theorem group_rest : ∀ {rest : List (List Str)} {acc : List (List (List Str))} {g : List (List Str)}, (∀ ws ∈ rest, WLn ws ∧ ws.head? ≠ some standW) → (rest.map (Str.join blank)).foldlM groupP (acc ++ [g]) = some (acc ++ [g ++ rest])
  | [], acc, g, _ => by rw [List.append_nil]; rfl
  | ws :: rest, acc, g, h => by
    obtain ⟨h1, h2⟩ := h ws List.mem_cons_self
    rw [List.map_cons, List.foldlM_cons]
    have e : groupP (acc ++ [g]) (Str.join blank ws) = some (acc ++ [g ++ [ws]]) := by
      unfold groupP groupW
      rw [h1.split, if_neg h2, if_neg (by simp), addG_snoc]
    rw [e]
    show List.foldlM groupP (acc ++ [g ++ [ws]]) _ = _
    rw [group_rest fun x hx => h x (List.mem_cons_of_mem _ hx), List.append_assoc]
    rfl
theorem group_stand {st : StandI} {acc : List (List (List Str))} (h : WOk st) : (standL st).foldlM groupP acc = some (acc ++ [standG st]) := by
  rw [standL_G]
  have ok := standG_ok h
  obtain ⟨ks, hk, _⟩ := h.deed
  unfold standG at ok ⊢
  rw [List.map_cons, List.foldlM_cons]
  have e : groupP acc (Str.join blank (standW :: [st.1].map numS)) = some (acc ++ [[standW :: [st.1].map numS]]) := by
    unfold groupP groupW
    rw [(ok _ List.mem_cons_self).split, if_pos (show (standW :: [st.1].map numS).head? = some standW from rfl)]
  rw [e]
  show List.foldlM groupP (acc ++ [[_]]) _ = _
  rw [group_rest fun ws hw => ⟨ok ws (List.mem_cons_of_mem _ hw), ?_⟩]
  · rfl
  · rcases List.mem_append.mp hw with hw | hw
    · obtain ⟨f, _, rfl⟩ := List.mem_map.mp hw
      intro z
      exact absurd (Option.some.inj z) (by decide)
    · rcases List.mem_cons.mp hw with rfl | hw
      · intro z
        exact (deed_word hk).2.1 (Option.some.inj z)
      · obtain ⟨f, _, rfl⟩ := List.mem_map.mp hw
        intro z
        exact absurd (Option.some.inj z) (by decide)
theorem group_lane : ∀ {l : List StandI} {acc : List (List (List Str))}, (∀ st ∈ l, WOk st) → (l.map standL).flatten.foldlM groupP acc = some (acc ++ l.map standG)
  | [], acc, _ => by rw [List.map_nil, List.map_nil, List.append_nil]; rfl
  | st :: l, acc, h => by
    rw [List.map_cons, List.flatten_cons, List.foldlM_append, group_stand (h st List.mem_cons_self)]
    show List.foldlM groupP (acc ++ [standG st]) _ = _
    rw [group_lane fun x hx => h x (List.mem_cons_of_mem _ hx), List.append_assoc]
    rfl
/-- THE WORD of lanes -/
theorem lane_forth {l : List StandI} (hl : l ≠ []) (h : ∀ st ∈ l, WOk st) : laneP (laneT l) = some l := by
  unfold laneP groupsP
  rw [lane_lines, feed_eq, split_join, group_lane h]
  · show List.mapM standP (l.map standG) = some l
    exact mapM_forth fun st hst => stand_forth (h st hst)
  · cases l with
    | nil => exact absurd rfl hl
    | cons d ds => exact List.cons_ne_nil _ _
  · intro p hp
    obtain ⟨x, hx, hp⟩ := List.mem_flatten.mp hp
    obtain ⟨st, hst, rfl⟩ := List.mem_map.mp hx
    rw [standL_G] at hp
    obtain ⟨ws, hw, rfl⟩ := List.mem_map.mp hp
    exact (standG_ok (h st hst) ws hw).free
end L2

end
section
set_option Elab.async false
set_option linter.all false
set_option maxRecDepth 100000
set_option maxHeartbeats 4000000
namespace L2
open PySem PySem.Spec PyProof.Rows
/-! ### isinstance(x, (list, tuple)) -/
section
variable {X : Cx} {pins : List (Addr × Obj)} {σ : St} {H : Hp} {s : Shared} {A : Around} {Q : Value → Shared → Prop} {E : Value → Shared → Prop} {b : Bool}
theorem isinst_tup {x : V} {u t : Value} {tp : Addr} {Ts : List V} {its : List Value} (I : Inv X pins σ H s) (rx : RelV x u) (ty : TyOf X.K H x t) (htp : H tp = some (.tup Ts)) (hv : ∀ us, Vals Ts us → us = its) (e : PySem.W.kitAny X.K t its = some b) (h : ∀ tk, Q (.bool b) { s with toks := tk }) :
    wpAny (model X.prog X.w) A (call (.builtin "isinstance") [u, .ref tp]) Q E s := by
  obtain ⟨_, us, hus, op⟩ := (show ObjOk X.prog X.w H s.heap tp (.tup Ts) from I.hok tp _ htp)
  obtain ⟨o, h1, h2, h3⟩ := op
  obtain rfl := hv us hus
  have hg : ∃ dd n sl, s.heap.get? tp = some ⟨.type "tuple", dd, .seq us.toArray n, sl⟩ := by
    obtain ⟨n, h3⟩ := h3
    obtain ⟨c, dd, da, sl⟩ := o
    obtain rfl : c = .type "tuple" := h2
    obtain rfl : da = .seq us.toArray n := h3
    exact ⟨dd, n, sl, h1⟩
  obtain ⟨dd, n, sl, hg⟩ := hg
  cases ty with
  | non => cases (show u = Value.none from rx); exact PySem.W.kia_tup PySem.W.kitx_none I.kIn True.intro hg e (fun z => nomatch z) h
  | bl y => cases (show u = Value.bool y from rx); exact PySem.W.kia_tup PySem.W.kitx_bool I.kIn True.intro hg e (fun z => nomatch z) h
  | int i => obtain ⟨t, q⟩ := (show ∃ t, u = Value.int i t from rx); cases q; exact PySem.W.kia_tup PySem.W.kitx_int I.kIn True.intro hg e (fun z => nomatch z) h
  | str y => obtain ⟨t, q⟩ := (show ∃ t, u = Value.str y t from rx); cases q; exact PySem.W.kia_tup PySem.W.kitx_str I.kIn True.intro hg e (fun z => nomatch z) h
  | flt y => obtain ⟨t, q⟩ := (show ∃ t, u = Value.float y t from rx); cases q; exact PySem.W.kia_tup PySem.W.kitx_float I.kIn True.intro hg e (fun z => nomatch z) h
  | @lst a xs ea =>
    cases (show u = Value.ref a from rx)
    obtain ⟨_, _, n, _, h1⟩ := (show ObjOk X.prog X.w H s.heap a (.lst xs) from I.hok a _ ea)
    exact PySem.W.kia_tup PySem.W.kitx_list I.kIn ⟨_, h1, rfl⟩ hg e (fun z => nomatch z) h
  | @frz a ob xs ea =>
    cases (show u = Value.ref a from rx)
    obtain ⟨_, _, _, n, _, h1⟩ := (show ObjOk X.prog X.w H s.heap a (.frz ob (.lst xs)) from I.hok a _ ea)
    exact PySem.W.kia_tup PySem.W.kitx_list I.kIn ⟨_, h1, rfl⟩ hg e (fun z => nomatch z) h
  | @tup a xs ea =>
    cases (show u = Value.ref a from rx)
    obtain ⟨_, _, _, p⟩ := (show ObjOk X.prog X.w H s.heap a (.tup xs) from I.hok a _ ea)
    obtain ⟨o, h1, h2, _⟩ := p
    exact PySem.W.kia_tup PySem.W.kitx_tuple I.kIn ⟨o, h1, h2⟩ hg e (fun z => nomatch z) h
  | @dK a kvs ea =>
    cases (show u = Value.ref a from rx)
    obtain ⟨_, _, vs, _, p⟩ := (show ObjOk X.prog X.w H s.heap a (.dK kvs) from I.hok a _ ea)
    obtain ⟨o, es, ep, h1, h2, _⟩ := p
    exact PySem.W.kia_tup PySem.W.kitx_dict I.kIn ⟨o, h1, h2.1⟩ hg e (fun z => nomatch z) h
  | @dT a kvs ea =>
    cases (show u = Value.ref a from rx)
    obtain ⟨_, _, xs, _, o, es, ep, h1, h2, _⟩ := (show ObjOk X.prog X.w H s.heap a (.dT kvs) from I.hok a _ ea)
    exact PySem.W.kia_tup PySem.W.kitx_dict I.kIn ⟨o, h1, h2.1⟩ hg e (fun z => nomatch z) h
  | @ins a C dx fs ea cl ha hn htk hm =>
    cases (show u = Value.ref a from rx)
    obtain ⟨mA, O, _⟩ := ins_get I.hok ea
    obtain ⟨od, J, _⟩ := O.look
    exact PySem.W.kia_tup (PySem.W.kitx_own (cl.get _) cl.hd ha hn htk hm) I.kIn J hg e (fun z => nomatch z) h
end
theorem kit_any {K : PySem.W.Frag} {t : String} (h : t ∈ ["int", "bool", "str", "tuple", "list", "dict", "NoneType"]) : PySem.W.kitAny K (.type t) [.type "list", .type "tuple"] = some (t == "list" || t == "tuple") := by
  simp only [List.mem_cons, List.mem_nil_iff, or_false] at h
  rcases h with rfl | rfl | rfl | rfl | rfl | rfl | rfl <;> with_unfolding_all rfl
noncomputable def rIsi2 : List V → Hp → VK → Prop := fun xs H Q => ∃ x tp t, xs = [x, .ref tp] ∧ tyN H x = some t ∧ H tp = some (.tup [.ty "list", .ty "tuple"]) ∧ Q (.bl (t == "list" || t == "tuple")) H
theorem call_isi2 {X : Cx} : CallR X (.builtin "isinstance") rIsi2 := by
  intro pins s σ H xs us Q I r h
  obtain ⟨x, tp, t, rfl, ht, hT, q⟩ := h
  cases r with
  | cons r1 r2 =>
    cases r2 with
    | cons r3 r4 =>
      cases r4
      cases r3
      obtain ⟨ty, hm⟩ := tyN_of (K := X.K) ht
      refine isinst_tup (its := [.type "list", .type "tuple"]) I r1 ty hT (fun us hu => ?_) (kit_any hm) fun tk => ⟨.bl _, H, I.tok _, rfl, q⟩
      cases hu with
      | cons a b =>
        cases b with
        | cons c d =>
          cases d
          cases a
          cases c
          rfl
theorem rd_isi2 {H : Hp} {x : V} {tp : Addr} {t : String} {Q : VK} (ht : tyN H x = some t) (hT : H tp = some (.tup [.ty "list", .ty "tuple"])) (q : Q (.bl (t == "list" || t == "tuple")) H) : rIsi2 [x, .ref tp] H Q := ⟨x, tp, t, rfl, ht, hT, q⟩
theorem rd_isi2T {H : Hp} {x : V} {tp : Addr} {t : String} {Q : VK} (ht : tyN H x = some t) (hT : H tp = some (.tup [.ty "list", .ty "tuple"])) (e : (t == "list" || t == "tuple") = true) (q : Q (.bl true) H) : rIsi2 [x, .ref tp] H Q := rd_isi2 ht hT (by rw [e]; exact q)
end L2

end
section
open PySem L2
local macro_rules | `(tactic| walk_at "rd1") => `(tactic| (first | ((with_reducible refine' rd_var ?e ?_); (case e => exact rfl)) | with_reducible refine rd_c ?_ | with_reducible refine rd_op ?_ | with_reducible refine rd_un ?_ | with_reducible refine rd_seq ?_ | with_reducible refine rd_asg ?_ | with_reducible refine rd_gname ?_ | with_reducible refine rd_ret ?_ | with_reducible refine rd_drop ?_ | with_reducible refine rd_next ?_ | with_reducible refine rd_if ?_ | with_reducible refine rd_test ?_ | with_reducible refine rd_tb ?_ | with_reducible refine rd_and ?_ | with_reducible refine rd_or ?_ | with_reducible refine rd_not ?_ | with_reducible refine rd_true ?_ | with_reducible refine rd_andV ?_ | with_reducible refine rd_orV ?_ | with_reducible refine rd_notV ?_ | with_reducible refine rd_ifE ?_ | with_reducible refine rd_chain ?_ | with_reducible refine rd_nil ?_ | with_reducible refine rd_cons ?_ | with_reducible refine rd_cb ?_ | with_reducible refine rd_call ?_ | with_reducible refine rd_I0 ?_ | with_reducible refine rd_U ?_ | with_reducible refine rd_eqI ?_ | with_reducible refine rd_neI ?_ | with_reducible refine rd_eqS ?_ | with_reducible refine rd_neS ?_ | with_reducible refine rd_eqB ?_ | with_reducible refine rd_neB ?_ | with_reducible refine rd_bl ?_ | with_reducible refine rd_int ?_ | with_reducible refine rd_tup ?_ | with_reducible refine rd_lst ?_ | with_reducible refine rd_gsub ?_ | with_reducible refine rd_slice ?_ | with_reducible refine rd_nopart ?_ | with_reducible refine rd_part ?_ | with_reducible refine rd_bm ?_ | with_reducible refine rd_bm0 ?_ | with_reducible refine rd_comp ?_ | with_reducible refine rd_itup ?_ | with_reducible refine rd_ilist ?_ | with_reducible refine rd_irng ?_ | with_reducible refine rd_gcons ?_ | with_reducible refine rd_gnil ?_ | with_reducible refine rd_for ?_ | with_reducible refine rd_abs ?_ | with_reducible refine rd_max ?_ | with_reducible refine rd_min ?_ | with_reducible refine rd_intB ?_ | with_reducible refine rd_dput ?_ | with_reducible refine rd_dget2 ?_ | with_reducible refine rd_dget ?_ | with_reducible refine rd_fld ?_ | with_reducible refine rd_sfld ?_ | with_reducible refine rd_meth ?_ | with_reducible refine rd_make ?_ | with_reducible refine rd_isN ?_ | with_reducible refine rd_notN ?_ | with_reducible refine rd_izip ?_ | with_reducible refine rd_izipT ?_ | with_reducible refine rd_pcons ?_ | with_reducible refine rd_pnil ?_ | with_reducible refine rd_dget1 ?_ | with_reducible refine rd_cdget ?_ | with_reducible refine rd_cdgetN ?_ | with_reducible refine rd_starts ?_ | with_reducible refine rd_iany ?_ | with_reducible refine rd_fmt ?_ | with_reducible refine rd_raise ?_ | with_reducible refine rd_tryX ?_ | with_reducible refine iteNT ?_ | with_reducible refine iteNF ?_ | with_reducible refine iteF ?_ | with_reducible refine iteT ?_))
local macro_rules | `(tactic| walk_at "rd") => `(tactic| (repeat walk_at "rd1"))
local macro_rules | `(tactic| walk_at "mk") => `(tactic| refine ⟨mk_le rfl, ?_⟩)
section
set_option Elab.async false
set_option linter.all false
set_option maxRecDepth 100000
set_option maxHeartbeats 4000000

namespace My
open PySem L2
noncomputable def top (i : Nat) : Stmt := PySem.Challenge.pw_midlanes_k73_whole_one_lane_text.main.body.getD i (.Pass ⟨0, 0, 0, 0⟩)
noncomputable abbrev s_shown_row : Stmt := top 8
noncomputable abbrev s_read_whole : Stmt := top 9
noncomputable abbrev s_shown_lane : Stmt := top 12
noncomputable abbrev s_shown_stand : Stmt := top 13
noncomputable abbrev s_shown_forms : Stmt := top 14
noncomputable abbrev s_shown_form : Stmt := top 15
noncomputable abbrev s_read_lane : Stmt := top 16
noncomputable abbrev s_read_stand : Stmt := top 17
noncomputable abbrev s_read_frame : Stmt := top 18
noncomputable abbrev s_read_deed : Stmt := top 19
noncomputable abbrev s_read_edge : Stmt := top 20
noncomputable abbrev s_read_forms : Stmt := top 21
noncomputable abbrev s_read_form : Stmt := top 22
noncomputable abbrev s_read_pair : Stmt := top 23
noncomputable abbrev s_read_numbers : Stmt := top 24
noncomputable abbrev s_read_number : Stmt := top 25
noncomputable abbrev s__law_bag : Stmt := top 27
noncomputable abbrev s__law_draw : Stmt := top 28
noncomputable abbrev s__law_number : Stmt := top 29
noncomputable abbrev s__law_wild_forms : Stmt := top 30
noncomputable abbrev s__law_wild_edge : Stmt := top 31
noncomputable abbrev s__law_wild_lane : Stmt := top 32
noncomputable abbrev s__law_form_written : Stmt := top 33
noncomputable abbrev s__law_lane_written : Stmt := top 34
noncomputable abbrev s__law_any_sign : Stmt := top 35
noncomputable abbrev s__law_run : Stmt := top 36
noncomputable abbrev s__law_bent_text : Stmt := top 37
noncomputable abbrev s__law_read : Stmt := top 38
noncomputable abbrev s__law_alike : Stmt := top 39
noncomputable abbrev s__law_line_again : Stmt := top 40
noncomputable abbrev s_law : Stmt := top 41
structure Blt (mg : Str → Option Value) : Prop where
  b_ValueError : mg "ValueError" = none
  b_abs : mg "abs" = none
  b_all : mg "all" = none
  b_bool : mg "bool" = none
  b_int : mg "int" = none
  b_isinstance : mg "isinstance" = none
  b_len : mg "len" = none
  b_list : mg "list" = none
  b_range : mg "range" = none
  b_str : mg "str" = none
  b_tuple : mg "tuple" = none
structure Glb (K : PySem.W.Frag) (w : World) (mg : Str → Option Value) : Prop where
  c_DEED_PARTS : IsCDN K w mg "DEED_PARTS" deedT
  c_FIGURES : ∃ t, mg "FIGURES" = some (.str "0123456789" t)
  c_MOST_FIGURES : ∃ t, mg "MOST_FIGURES" = some (.int 300 t)

structure ExH (K : PySem.W.Frag) (mg : Str → Option Value) (C_NoText C_LaneError C_NotFormed C_Faulty : Addr) : Prop where
  m_NoText : mg "NoText" = some (.ref C_NoText)
  exc : ExcC K C_NoText
  m_LaneError : mg "LaneError" = some (.ref C_LaneError)
  m_NotFormed : mg "NotFormed" = some (.ref C_NotFormed)
  m_Faulty : mg "Faulty" = some (.ref C_Faulty)
  x_LaneError : PySem.W.exmOne K (.ref C_NoText) (.ref C_LaneError) = some true
  k : ExcK K C_NoText
  kV : PySem.W.kitCls K (.ref C_NoText) (.type "ValueError") = some true
  kN : PySem.W.kitCls K (.ref C_NoText) (.ref C_NotFormed) = some false
  kF : PySem.W.kitCls K (.ref C_NoText) (.ref C_Faulty) = some false
  nN : (Value.ref C_NoText == Value.ref C_NotFormed) = false
  nF : (Value.ref C_NoText == Value.ref C_Faulty) = false
theorem bt_ValueError : bootBuiltins "ValueError" = some (.type "ValueError") := by decide +kernel


section
variable {P : Program} {w : World} {K : PySem.W.Frag} {mg : Str → Option Value} {base : Heap}
theorem sc__law_draw : FnScope ["bag", "many", "found"] ["bag", "many"] (defScope s__law_draw) := ⟨rfl, rfl, rfl, by decide +kernel, rfl, by decide +kernel, by decide +kernel⟩
theorem c__law_draw (B : Blt mg) (T__law_draw : TopFn K mg "_law_draw" s__law_draw ["bag", "many"]) : Callee P w K mg base "_law_draw" 1 ["bag", "many"] sp_draw := by
  refine T__law_draw.ok2 sc__law_draw fun f cdv A outer s H v1 v2 Q E hr h => ?_
  have nd := sc__law_draw.nd
  obtain ⟨b, l, n, rfl, rfl, ⟨hn, hn2⟩, Bg, k⟩ := h
  obtain ⟨xs, i, m, st, c, hb, hl, hi, ⟨hm0, hm1⟩, ⟨hs0, hs1⟩, hxs, hlen⟩ := Bg.ex
  have nbl : l ≠ b := ne_of hl hb (by
    intro z
    injection z with z
    cases xs <;> simp [bagL] at z)
  have hl2 : ∀ o, upd H b o l = some (.lst (xs.map V.int)) := fun o => by rw [upd_ne nbl]; exact hl
  refine' go_body [some (.ref b), some (.int n), none] rfl ?hb ?hg
  case hb =>
   refine' pss_cons ?zb ?zc
   case zb =>
    refine' ps_if ?zd ?ze ?zf
    case zd =>
     refine' PW.pt ?zg
     case zg =>
      refine' pw_and ?zh ?zi
      case zh => exact (pt_cmpR op_eq (pe_ix (k_ix (K := K) rfl) (pv 0) pe_int (fun _ _ => rfl)) pe_int (nomark _))
      case zi =>
       refine' pw_and1 ?zj
       case zj =>
        refine' pt_cmpR ?zk ?zl ?zm ?zn
        case zk => exact op_lt
        case zl => exact (pe_ix (k_ix (K := K) rfl) (pv 0) pe_int (fun _ _ => rfl))
        case zm => exact (pe_callB (k_len (K := K) rfl) (by rfl) B.b_len bt_len (pa_consS (pe_ix (k_ix (K := K) rfl) (pv 0) pe_int (fun _ _ => rfl)) pa_nil))
        case zn => exact (nomark _)
    case ze =>
     refine' pss_cons ?zo ?zp
     case zo =>
      refine' ps_asg ?zq ?zr
      case zq =>
       refine' pe_ix ?zs ?zt ?zu ?zv
       case zs => exact (k_ix (K := K) rfl)
       case zt => exact (pe_ix (k_ix (K := K) rfl) (pv 0) pe_int (fun _ _ => rfl))
       case zu => exact (pe_ix (k_ix (K := K) rfl) (pv 0) pe_int (fun _ _ => rfl))
       case zv => exact (fun _ _ => rfl)
      case zr => exact (pg_sub (pv 0) pe_int set_list)
     case zp => exact (pss_one (ps_asg (pe_op op_add (pe_ix (k_ix (K := K) rfl) (pv 0) pe_int (fun _ _ => rfl)) pe_int) (pg_sub (pv 0) pe_int set_list)))
    case zf =>
     refine' pss_one ?zw
     case zw =>
      refine' ps_if ?zx ?zy ?zz
      case zx => exact (pt_cmpR op_eq (pe_ix (k_ix (K := K) rfl) (pv 0) pe_int (fun _ _ => rfl)) pe_int (nomark _))
      case zy =>
       refine' pss_cons ?zba ?zbb
       case zba => exact (ps_asg (pe_op op_add (pe_ix (k_ix (K := K) rfl) (pv 0) pe_int (fun _ _ => rfl)) pe_int) (pg_sub (pv 0) pe_int set_list))
       case zbb =>
        refine' pss_cons ?zbc ?zbd
        case zbc =>
         refine' ps_asg ?zbe ?zbf
         case zbe =>
          refine' pe_op ?zbg ?zbh ?zbi
          case zbg => exact op_mod
          case zbh =>
           refine' pe_op ?zbj ?zbk ?zbl
           case zbj => exact op_add
           case zbk =>
            refine' pe_op ?zbm ?zbn ?zbo
            case zbm => exact op_add
            case zbn =>
             refine' pe_op ?zbp ?zbq ?zbr
             case zbp => exact op_add
             case zbq => exact (pe_op op_pow (pe_ix (k_ix (K := K) rfl) (pv 0) pe_int (fun _ _ => rfl)) pe_int)
             case zbr => exact (pe_op op_mul pe_int (pe_ix (k_ix (K := K) rfl) (pv 0) pe_int (fun _ _ => rfl)))
            case zbo => exact (pe_op op_mul pe_int (pe_ix (k_ix (K := K) rfl) (pv 0) pe_int (fun _ _ => rfl)))
           case zbl => exact pe_int
          case zbi => exact pe_int
         case zbf => exact (pg_sub (pv 0) pe_int set_list)
        case zbd => exact (pss_one (ps_ret (pe_op op_mod (pe_op op_fdivB (pe_ix (k_ix (K := K) rfl) (pv 0) pe_int (fun _ _ => rfl)) pe_int) (pv 1))))
      case zz => exact pss_nil
   case zc =>
    refine' pss_cons ?zbs ?zbt
    case zbs => exact (ps_setB (i := 2) nd rfl (Or.inl rfl) (pe_op op_mod (pe_ix (k_ix (K := K) rfl) (pv 0) pe_int (fun _ _ => rfl)) (pv 1)))
    case zbt =>
     refine' pss_cons ?zbu ?zbv
     case zbu => exact (ps_asg (pe_op op_fdivB (pe_ix (k_ix (K := K) rfl) (pv 0) pe_int (fun _ _ => rfl)) (pv 1)) (pg_sub (pv 0) pe_int set_list))
     case zbv => exact (pss_one (ps_ret (pv 2)))
  have fin : ∀ (j : Nat) (m' : Int), j ≤ xs.length → 0 ≤ m' → m' ≤ 10 ^ 60 → ∀ H1, BSame b H H1 → H1 b = some (.lst (bagL l j m' st c)) → H1 l = some (.lst (xs.map V.int)) →
      Q (.int (m' % n)) (upd H1 b (.lst (bagL l j (m' / n) st c))) := by
    intro j m' hj h0 h1 H1 bs hb1 hl1
    have hd0 : 0 ≤ m' / n := Int.ediv_nonneg h0 (Int.le_of_lt hn)
    have hd1 : m' / n ≤ m' := Int.ediv_le_self _ h0
    refine k _ _ (Int.emod_nonneg _ (by omega)) (Int.emod_lt_of_pos _ hn) ⟨xs, j, m' / n, st, c, upd_same, by rw [upd_ne nbl]; exact hl1, hj, ⟨hd0, by omega⟩, ⟨hs0, hs1⟩, hxs, hlen⟩ (bs.trans BSame.wr)
  have tail : ∀ (j : Nat) (m' : Int) (σ2 : St), σ2 = [some (.ref b), some (.int n), none] → j ≤ xs.length → 0 ≤ m' → m' ≤ 10 ^ 60 → ∀ H1, BSame b H H1 → H1 b = some (.lst (bagL l j m' st c)) → H1 l = some (.lst (xs.map V.int)) →
      tSeq (tAsg (tOp (rI (fun _ j => 0 < j) fun i j => .int (i % j)) (tOp (rIxA K) (tVar 0) (tC (.int 2))) (tVar 1)) (gName 2))
        (tSeq (tAsg (tOp (rI CDivB fun i j => .int (i / j)) (tOp (rIxA K) (tVar 0) (tC (.int 2))) (tVar 1)) (gSub (tVar 0) (tC (.int 2)) rSetL)) (tRet (tVar 2))) { nx := fun _ H' => Q .non H', rt := Q } σ2 H1 := by
    intro j m' σ2 e hj h0 h1 H1 bs hb1 hl1
    subst e
    walk_at "rd"
    refine rd_ixaL (v := .int m') hb1 rfl ?_
    walk_at "rd"
    refine rd_I hn ?_
    walk_at "rd"
    refine rd_ixaL (v := .int m') hb1 rfl ?_
    walk_at "rd"
    refine rd_I (cdivb_of hn (by omega)) ?_
    walk_at "rd"
    refine rd_setL (k := 2) hb1 rfl ?_
    walk_at "rd"
    exact fin j m' hj h0 h1 H1 bs hb1 hl1
  walk_at "rd"
  refine rd_ixaL (v := .int m) hb rfl ?_
  walk_at "rd"
  refine ite_dd (fun hm => ?_) (fun hm => ?_)
  · walk_at "rd"
    refine rd_ixaL (v := .int i) hb rfl ?_
    walk_at "rd"
    refine rd_ixaL (v := .ref l) hb rfl ?_
    walk_at "rd"
    refine rd_lenL' (SqL.of hl) ?_
    walk_at "rd"
    rw [List.length_map]
    refine ite_dd (fun hi2 => ?_) (fun hi2 => ?_)
    · walk_at "rd"
      refine rd_ixaL (v := .ref l) hb rfl ?_
      walk_at "rd"
      refine rd_ixaL (v := .int i) hb rfl ?_
      walk_at "rd"
      have hil : i < xs.length := by omega
      have hxi := hxs _ (List.getElem_mem hil)
      refine rd_ixaL (v := .int xs[i]) hl (atI_at (n := i) rfl (by rw [List.getElem?_map, List.getElem?_eq_getElem hil]; rfl)) ?_
      walk_at "rd"
      refine rd_setL (k := 2) hb rfl ?_
      walk_at "rd"
      refine rd_ixaL (v := .int i) upd_same rfl ?_
      walk_at "rd"
      refine rd_setL (k := 1) upd_same rfl ?_
      exact tail (i + 1) xs[i] _ rfl (by omega) hxi.1 hxi.2 _ (BSame.wr.trans BSame.wr) upd_same (by rw [upd_ne nbl]; exact hl2 _)
    · walk_at "rd"
      refine rd_ixaL (v := .int m) hb rfl ?_
      walk_at "rd"
      refine ite_dy hm ?_
      walk_at "rd"
      refine rd_ixaL (v := .int c) hb rfl ?_
      walk_at "rd"
      refine rd_setL (k := 4) hb rfl ?_
      walk_at "rd"
      refine rd_ixaL (v := .int st) upd_same rfl ?_
      walk_at "rd"
      refine rd_I ⟨by decide, by decide, by omega⟩ ?_
      walk_at "rd"
      refine rd_ixaL (v := .int st) upd_same rfl ?_
      walk_at "rd"
      refine rd_I (.inl ⟨by decide, by decide⟩) ?_
      walk_at "rd"
      refine rd_ixaL (v := .int (c + 1)) upd_same rfl ?_
      walk_at "rd"
      refine rd_I (.inl ⟨by decide, by decide⟩) ?_
      walk_at "rd"
      refine rd_I (by decide) ?_
      walk_at "rd"
      refine rd_setL (k := 3) upd_same rfl ?_
      walk_at "rd"
      generalize hst : (st ^ (3 : Int).toNat + 48271 * st + 1013 * (c + 1) + 1) % 2147483647 = st'
      have h0 : 0 ≤ st' := by rw [← hst]; exact Int.emod_nonneg _ (by decide)
      have h1 : st' < 2147483647 := by rw [← hst]; exact Int.emod_lt_of_pos _ (by decide)
      refine rd_ixaL (v := .int st') upd_same rfl ?_
      walk_at "rd"
      refine rd_I (cdivb_of (by decide) (by decide +kernel)) ?_
      walk_at "rd"
      refine rd_I hn ?_
      refine k _ _ (Int.emod_nonneg _ (by omega)) (Int.emod_lt_of_pos _ hn) ⟨xs, i, m, st', c + 1, upd_same, by rw [upd_ne nbl]; exact hl2 _, hi, ⟨hm0, hm1⟩, ⟨h0, h1⟩, hxs, hlen⟩ (BSame.wr.trans BSame.wr)
  · walk_at "rd"
    refine rd_ixaL (v := .int m) hb rfl ?_
    walk_at "rd"
    refine ite_dn hm ?_
    exact tail i m _ rfl hi hm0 hm1 H (BSame.refl _ _) hb hl

theorem sc__law_bag : FnScope ["script", "stir", "cell"] ["script"] (defScope s__law_bag) := ⟨rfl, rfl, rfl, by decide +kernel, rfl, by decide +kernel, by decide +kernel⟩
theorem c__law_bag (B : Blt mg) (T__law_bag : TopFn K mg "_law_bag" s__law_bag ["script"]) : Callee P w K mg base "_law_bag" 1 ["script"] (sp_bag K) := by
  refine T__law_bag.ok1 sc__law_bag fun f cdv A outer s H v1 Q E hr h => ?_
  have nd := sc__law_bag.nd
  obtain ⟨a, ns, rfl, hS, hlen, k⟩ := h
  refine' go_body [some (.ref a), none, none] rfl ?hb ?hg
  case hb =>
   refine' pss_cons ?zbw ?zbx
   case zbw => exact (ps_set (i := 1) nd rfl (Or.inl rfl) pe_int)
   case zbx =>
    refine' pss_cons ?zby ?zbz
    case zby =>
     refine' ps_for ?zca ?zcb ?zcc ?zcd ?zce
     case zca => exact PassesOwn.never
     case zcb => exact rfl
     case zcc => exact (k_pi_list (K := K) rfl (pe_slice (k_sl (K := K) rfl) (pv 0) po_none (po_some pe_int)))
     case zcd => exact (pg_name (i := 2) nd rfl (Or.inl rfl))
     case zce =>
      refine' pss_one ?zcf
      case zcf =>
       refine' ps_setB (i := 1) ?zcg ?zch ?zci ?zcj
       case zcg => exact nd
       case zch => exact rfl
       case zci => exact (Or.inl rfl)
       case zcj => exact (pe_op op_mod (pe_op op_add (pe_op op_add (pe_op op_mul (pv 1) pe_int) (pe_op op_mod (pv 2) pe_int)) pe_int) pe_int)
    case zbz =>
     refine' pss_one ?zck
     case zck =>
      refine' ps_ret ?zcl
      case zcl =>
       refine' pe_lst ?zcm
       case zcm =>
        refine' pa_consM ?zcn ?zco
        case zcn =>
         refine' pe_comp (LN := ["cell"]) (FN := []) (fr := []) ?zcp ?zcq ?zcr ?zcs ?zct ?zcu
         case zcp => exact rfl
         case zcq => exact (bk_of (by rfl))
         case zcr => exact (k_pi_list (K := K) rfl (pe_slice (k_sl (K := K) rfl) (pv 0) po_none (po_some pe_int)))
         case zcs =>
          intro cl C fp pins s H
          exact (pg_name (i := 0) (show ((["cell"] : List Str) ++ ([] : List Str)).Nodup by decide +kernel) rfl (Or.inl rfl))
         case zct =>
          intro cl C fp pins s H
          exact pts_nil
         case zcu =>
          intro cl C fp pins s H
          exact (pe_op op_mod (pe_callB call_abs' (by rfl) B.b_abs bt_abs (pa_consN (pv 0) pa_nil)) (pe_op op_pow pe_int pe_int))
        case zco => exact (pa_consK pe_int (pa_consK pe_int (pa_consN (pv 1) (pa_consK pe_int pa_nil))))
  walk_at "rd"
  refine rd_slL hS fun p hp => ?_
  obtain ⟨ms, em, hm⟩ := cutV_ints ns none (some 63)
  rw [em]
  refine ilK_of (SqL.of upd_same) ?_
  have s0 := Same.new (o := .lst (ms.map V.int)) hp
  generalize hH0 : upd H p (HO.lst (ms.map V.int)) = H0 at s0
  have hp0 : H0 p = some (.lst (ms.map V.int)) := by rw [← hH0]; exact upd_same
  refine for_list (xs := ms.map V.int) (fun i σ H1 => ∃ st c2, σ = [some (.ref a), some (.int st), c2] ∧ H1 = H0 ∧ 0 ≤ st ∧ st < 2147483647) ⟨11, none, rfl, rfl, by decide, by decide⟩ (fun i σ H1 _ ⟨_, _, _, e, _⟩ => by rw [e]; exact SqL.of hp0) ?_ ?_
  · rintro i x σ H1 hx ⟨st, c2, rfl, rfl, h0, h1⟩
    obtain ⟨z, rfl, _⟩ := ints_get hx
    walk_at "rd"
    refine rd_I (.inr ⟨by decide, by decide⟩) ?_
    walk_at "rd"
    refine rd_I (by decide) ?_
    walk_at "rd"
    refine rd_I (by decide) ?_
    walk_at "rd"
    exact ⟨_, _, rfl, rfl, Int.emod_nonneg _ (by decide), Int.emod_lt_of_pos _ (by decide)⟩
  · rintro σ H1 ⟨st, c2, rfl, rfl, h0, h1⟩
    walk_at "rd"
    refine rd_slL (s0.seq hS) fun p2 hp2 => ?_
    rw [em]
    refine ilK_of (SqL.of upd_same) ?_
    have s2 := Same.new (o := .lst (ms.map V.int)) hp2
    generalize hH2 : upd H1 p2 (HO.lst (ms.map V.int)) = H2 at s2
    have hp2' : H2 p2 = some (.lst (ms.map V.int)) := by rw [← hH2]; exact upd_same
    refine cw_list (xs := ms.map V.int) (small_le (by rw [List.length_map]; omega)) (fun i ys σ H3 => (∃ x1, σ = [x1]) ∧ H3 = H2 ∧ ∃ zs : List Int, ys = zs.map V.int ∧ ∀ z ∈ zs, 0 ≤ z ∧ z ≤ 10 ^ 60) ⟨⟨none, rfl⟩, rfl, [], rfl, fun _ h => by cases h⟩ (fun i ys σ H3 _ ⟨_, e, _⟩ => by rw [e]; exact SqL.of hp2') ?_ ?_
    · rintro i x ys σ H3 hx hle hlt ⟨⟨x1, rfl⟩, rfl, zs, rfl, hz⟩
      obtain ⟨z, rfl, _⟩ := ints_get hx
      walk_at "rd"
      refine rd_I cpow60 ?_
      refine rd_I (by decide +kernel) ?_
      rw [ten60]
      refine ⟨hlt, by simpa using hle, ⟨_, rfl⟩, rfl, zs ++ [_], by rw [List.map_append]; rfl, fun u hu => ?_⟩
      rcases List.mem_append.mp hu with hu | hu
      · exact hz u hu
      · obtain rfl := List.mem_singleton.mp hu
        omega
    · rintro ys σ H3 hyl ⟨⟨x1, rfl⟩, rfl, zs, rfl, hz⟩ l hl
      walk_at "rd"
      walk_at "mk"; intro bb hbb
      have sA := Same.new (o := .lst (zs.map V.int)) hl
      have sB := Same.new (o := .lst [V.ref l, V.int 0, V.int 0, V.int st, V.int 0]) hbb
      have sall := ((s0.trans s2).trans sA).trans sB
      rw [List.length_map, List.length_map] at hyl
      exact k bb l _ (((s0.trans s2).trans sA).free hbb) sall ⟨zs, 0, 0, st, 0, upd_same, upd_old upd_same hbb, Nat.zero_le _, ⟨by decide, by decide⟩, ⟨h0, h1⟩, hz, by omega⟩

theorem meet_ifE {c : TT} {ta tb : TE} {σ : St} {H : Hp} {Q : VK} (I : V → Prop) (hI : ∀ v, I v → Q v H) (h : ∀ N : VK, (∀ v, I v → N v H) → tIf c ta tb σ H N) : tIf c ta tb σ H Q := h Q hI
theorem big_le {n : Nat} (h : n ≤ 1000000) : n ≤ PySem.sizeLine := by rw [PySem.sizeLine_eq]; omega
theorem rd_lenS' {H : Hp} {x : Str} {Q : VK} (h : x.length ≤ PySem.sizeLine) (q : Q (.int x.length) H) : rLen K [.str x] H Q := ⟨_, _, rfl, ⟨h, rfl⟩, q⟩
noncomputable def sp_read_whole (C : Addr) : Sp := spX2 fun x y H Q E => ∃ z most, x = .str z ∧ y = .int (most : Nat) ∧ most ≤ 600 ∧ z.length ≤ 900000 ∧ isAsc z ∧ (∀ n H', wholeP most z = some n → Same H H' → Q (.int n) H') ∧ ∀ H', wholeP most z = none → Same H H' → E (.ref C) none H'
theorem sc_read_whole : FnScope ["text", "most", "figures"] ["text", "most"] (defScope s_read_whole) := ⟨rfl, rfl, rfl, by decide +kernel, rfl, by decide +kernel, by decide +kernel⟩
theorem c_read_whole {C_NoText C_LaneError C_NotFormed C_Faulty : Addr} (B : Blt mg) (G : Glb K w mg) (HX : ExH K mg C_NoText C_LaneError C_NotFormed C_Faulty) (T_read_whole : TopFn K mg "read_whole" s_read_whole ["text", "most"]) : CalleeX P w K mg base C_NoText "read_whole" 1 ["text", "most"] (sp_read_whole C_NoText) := by
  refine T_read_whole.okX2 sc_read_whole fun f cdv A outer s H v1 v2 Q E hr h => ?_
  have nd := sc_read_whole.nd
  obtain ⟨z, most, rfl, rfl, hm, hz, az, k, no⟩ := h
  have hl := cs_len z
  refine' go_bodyX [some (.str z), some (.int (most : Nat)), none] rfl ?hb ?hg
  case hb =>
   refine' pss_cons ?zcv ?zcw
   case zcv =>
    refine' ps_set (i := 2) ?zcx ?zcy ?zcz ?zda
    case zcx => exact nd
    case zcy => exact rfl
    case zcz => exact (Or.inl rfl)
    case zda =>
     refine' pe_ifExp ?zdb ?zdc ?zdd
     case zdb => exact (pt_val (k_bm (K := K) rfl PySem.F.plainAttrs_str PySem.F.slot_str_startswith PySem.F.type_str_startswith mt_starts (pv 0) (pa_consK pe_str pa_nil)))
     case zdc => exact (pe_slice sl_str (pv 0) (po_some pe_int) po_none)
     case zdd => exact (pv 0)
   case zcw =>
    refine' pss_cons ?zde ?zdf
    case zde =>
     refine' ps_if ?zdg ?zdh ?zdi
     case zdg =>
      refine' pt_not ?zdj
      case zdj =>
       refine' PW.pt ?zdk
       case zdk =>
        refine' pw_and ?zdl ?zdm
        case zdl => exact (pt_chain op_le op_le pe_int (pe_callB (k_len (K := K) rfl) (by rfl) B.b_len bt_len (pa_consN (pv 2) pa_nil)) (pv 1))
        case zdm =>
         refine' pw_and1 ?zdn
         case zdn =>
          refine' pt_val ?zdo
          case zdo =>
           refine' pe_callB ?zdp ?zdq ?zdr ?zds ?zdt
           case zdp => exact (k_all (K := K) rfl rfl)
           case zdq => exact (by rfl)
           case zdr => exact B.b_all
           case zds => exact bt_all
           case zdt =>
            refine' pa_consM ?zdu ?zdv
            case zdu =>
             refine' pe_comp (LN := ["sign"]) (FN := []) (fr := []) ?zdw ?zdx ?zdy ?zdz ?zea ?zeb
             case zdw => exact rfl
             case zdx => exact (bk_of (by rfl))
             case zdy => exact (k_pi_str (K := K) rfl (pv 2))
             case zdz =>
              intro cl C fp pins s H
              exact (pg_name (i := 0) (show ((["sign"] : List Str) ++ ([] : List Str)).Nodup by decide +kernel) rfl (Or.inl rfl))
             case zea =>
              intro cl C fp pins s H
              exact pts_nil
             case zeb =>
              intro cl C fp pins s H
              exact (pe_cmpR op_inS (pv 0) (pe_cstr (by rfl) G.c_FIGURES) (by with_unfolding_all rfl))
            case zdv => exact pa_nil
     case zdh => exact (pss_one (ps_raise (by rfl) HX.m_NoText HX.exc (pa_consK pe_str pa_nil)))
     case zdi => exact pss_nil
    case zdf =>
     refine' pss_cons ?zec ?zed
     case zec =>
      refine' ps_if ?zee ?zef ?zeg
      case zee => exact (PW.pt (pw_and (pt_cmpR op_eq (pe_ix ix_str (pv 2) pe_int (fun _ _ => rfl)) pe_str (nomark _)) (pw_and1 (pt_cmpR op_ne (pv 0) pe_str (nomark _)))))
      case zef => exact (pss_one (ps_raise (by rfl) HX.m_NoText HX.exc (pa_consK pe_str pa_nil)))
      case zeg => exact pss_nil
     case zed => exact (pss_one (ps_ret (pe_callTy call_intT (by rfl) B.b_int bt_int (pa_consN (pv 0) pa_nil))))
  refine rd_seq ?_
  refine rd_asg ?_
  refine meet_ifE (fun v => ∃ fz : Str, v = .str fz ∧ cs fz = figT z ∧ isAsc fz) ?_ fun N hN => ?_
  rotate_left
  · walk_at "rd"
    refine ⟨rfl, ?_⟩
    walk_at "rd"
    rw [show Txt.startswith z (Str.ofString "-") = decide ((cs z).head? = some 45) from starts_minus z]
    refine ite_dd (fun hd => ?_) (fun hd => ?_)
    · walk_at "rd"
      have h1 : 1 ≤ z.length := by
        rw [← hl]
        cases ez : cs z with
        | nil => rw [ez] at hd; cases hd
        | cons c r => simp
      have es : cs (Txt.slice z (some 1) none) = figT z := by
        rw [slice1 z h1]
        unfold figT
        rw [if_pos hd]
      refine ⟨z, rfl, (big_le (by omega)), hN _ ⟨_, rfl, es, asc_mem.mpr fun c hc => ?_⟩⟩
      rw [slice1 z h1] at hc
      exact asc_mem.mp az c (List.mem_of_mem_drop hc)
    · walk_at "rd"
      exact hN _ ⟨z, rfl, by unfold figT; rw [if_neg hd], az⟩
  rintro v ⟨fz, rfl, ef, af⟩
  have hfl := cs_len fz
  have hfz : fz.length ≤ 900000 := by
    rw [← hfl, ef]
    unfold figT
    split
    · rw [List.length_drop]; omega
    · omega
  have bad : ∀ H', ¬ ((1 ≤ (figT z).length ∧ (figT z).length ≤ most) ∧ (figT z).all isFig = true) → Same H H' → E (.ref C_NoText) none H' := fun H' h s' => no H' (by unfold wholeP; rw [if_neg h]) s'
  walk_at "rd"
  refine rd_lenS' ((big_le (by omega))) ?_
  walk_at "rd"
  refine ite_dd (fun h1 => ?_) (fun h1 => ?_)
  rotate_left
  · walk_at "rd"
    exact ⟨by decide, bad _ (fun h => h1 (by rw [← ef, hfl] at h; omega)) (Same.refl _)⟩
  walk_at "rd"
  refine ite_dd (fun h2 => ?_) (fun h2 => ?_)
  rotate_left
  · walk_at "rd"
    exact ⟨by decide, bad _ (fun h => h2 (by rw [← ef, hfl] at h; omega)) (Same.refl _)⟩
  walk_at "rd"
  refine rd_istr ?_
  walk_at "rd"
  refine ⟨fz, rfl, af, ?_⟩
  refine cw_str ((big_le (by show fz.length ≤ _; omega))) (fun i ys σ Hy => (∃ x1, σ = [x1]) ∧ Hy = H ∧ ys = ((cs fz).take i).map fun c => V.bl (isFig c)) ⟨⟨none, rfl⟩, rfl, rfl⟩ ?_ ?_
  · rintro i c ys σ Hy hc hle hlt ⟨⟨x1, rfl⟩, rfl, rfl⟩
    walk_at "rd"
    refine rd_inS1 ?_
    refine ⟨hlt, by simpa using hle, ⟨_, rfl⟩, rfl, ?_⟩
    have hc' : (cs fz)[i]? = some c := by rw [Array.getElem?_toList]; exact hc
    rw [List.take_add_one, hc']
    have : isFig c = decide (c ∈ (Str.ofString "0123456789").cps.toList) := by
      have e : (Str.ofString "0123456789").cps.toList = [48, 49, 50, 51, 52, 53, 54, 55, 56, 57] := by decide
      rw [e, Bool.eq_iff_iff]
      simp [isFig]
      omega
    simp [this]
  rintro ys σ Hy _ ⟨⟨x1, rfl⟩, rfl, rfl⟩ p hp
  rw [show fz.cps.size = (cs fz).length from hfl.symm, List.take_length]
  have s1 := Same.new (o := .lst ((cs fz).map fun c => V.bl (isFig c))) hp
  have e1 : upd Hy p (.lst ((cs fz).map fun c => V.bl (isFig c))) p = some (.lst ((cs fz).map fun c => V.bl (isFig c))) := upd_same
  generalize upd Hy p (.lst ((cs fz).map fun c => V.bl (isFig c))) = H1 at s1 e1
  walk_at "rd"
  refine ⟨p, (cs fz).map isFig, rfl, SqL.of (by rw [e1, List.map_map]; rfl), ?_⟩
  walk_at "rd"
  have ea : ((cs fz).map isFig).all id = (figT z).all isFig := by rw [ef, List.all_map]; rfl
  rw [ea]
  cases hall : (figT z).all isFig with
  | false =>
    walk_at "rd"
    exact ⟨by decide, bad _ (fun h => by rw [hall] at h; exact absurd h.2 (by decide)) s1⟩
  | true =>
    walk_at "rd"
    have hcond : (1 ≤ (figT z).length ∧ (figT z).length ≤ most) ∧ (figT z).all isFig = true := ⟨by rw [← ef, hfl]; omega, hall⟩
    obtain ⟨c, r, ec⟩ : ∃ c r, cs fz = c :: r := by
      cases h : cs fz with
      | nil => rw [h] at hfl; simp at hfl; omega
      | cons c r => exact ⟨c, r, rfl⟩
    refine ⟨fz, 0, c, rfl, rfl, (big_le (by omega)), atI_at (n := 0) rfl (by show (cs fz)[0]? = _; rw [ec]; rfl), ?_⟩
    walk_at "rd"
    obtain ⟨hzl, n', hn'⟩ := whole_some hm hcond.1 hcond.2
    have fin : ¬ ((figT z).head? = some 48 ∧ cs z ≠ [48]) → wholeP most z = some n' := fun h => by
      unfold wholeP
      rw [if_pos hcond, if_neg h]
      exact hn'
    have hz0 : z = Str.ofString "0" ↔ cs z = [48] := ⟨fun e => by rw [e]; decide, fun e => cs_inj (by rw [e]; decide)⟩
    have hc0 : (⟨#[c]⟩ : Str) = Str.ofString "0" ↔ (figT z).head? = some 48 := by
      rw [← ef, ec]
      constructor
      · intro e
        have := congrArg cs e
        have h2 : [c] = [48] := this.trans (by decide)
        rw [(List.cons.inj h2).1]
        rfl
      · intro e
        cases e
        decide
    refine ite_dd (fun h3 => ?_) (fun h3 => ?_)
    · walk_at "rd"
      refine ite_nd (fun h4 => ?_) (fun h4 => ?_)
      · walk_at "rd"
        exact ⟨by decide, no _ (by unfold wholeP; rw [if_pos hcond, if_pos ⟨hc0.mp h3, fun e => h4 (hz0.mpr e)⟩]) s1⟩
      · walk_at "rd"
        refine rd_intT hn' (by omega) ?_
        exact k _ _ (fin fun h => h.2 (hz0.mp h4)) s1
    · walk_at "rd"
      refine rd_intT hn' (by omega) ?_
      exact k _ _ (fin fun h => h3 (hc0.mpr h.1)) s1

/-! ### parts of a text -/
theorem jn_mem {c x : Nat} : ∀ {ps : List (List Nat)} {p : List Nat}, p ∈ ps → x ∈ p → x ∈ jn c ps
  | [_], p, hp, hx => by rw [List.mem_singleton.mp hp] at hx; exact hx
  | a :: b :: r, p, hp, hx => by
    show x ∈ a ++ c :: jn c (b :: r)
    rcases List.mem_cons.mp hp with rfl | hp
    · exact List.mem_append_left _ hx
    · exact List.mem_append_right _ (List.mem_cons_of_mem _ (jn_mem hp hx))
theorem jn_len {c : Nat} : ∀ {ps : List (List Nat)} {p : List Nat}, p ∈ ps → p.length ≤ (jn c ps).length
  | [_], p, hp => by rw [List.mem_singleton.mp hp]; exact Nat.le_refl _
  | a :: b :: r, p, hp => by
    show _ ≤ (a ++ c :: jn c (b :: r)).length
    rw [List.length_append, List.length_cons]
    rcases List.mem_cons.mp hp with rfl | hp
    · omega
    · have := jn_len (c := c) hp
      omega
theorem split_part {z p : Str} {c : Nat} (h : p ∈ Txt.split z ⟨#[c]⟩) : (∀ x ∈ cs p, x ∈ cs z) ∧ p.length ≤ z.length := by
  have e := congrArg cs (StrLaws.join_split z ⟨#[c]⟩)
  rw [cs_join] at e
  have hm : cs p ∈ (Txt.split z ⟨#[c]⟩).map cs := List.mem_map.mpr ⟨p, h, rfl⟩
  refine ⟨fun x hx => by rw [← e]; exact jn_mem hm hx, ?_⟩
  have := jn_len (c := c) hm
  rw [e, cs_len, cs_len] at this
  exact this
theorem asc_part {z p : Str} {c : Nat} (h : p ∈ Txt.split z ⟨#[c]⟩) (a : isAsc z) : isAsc p := asc_mem.mpr fun x hx => asc_mem.mp a x ((split_part h).1 x hx)
theorem fold_none {α β : Type} {f : β → α → Option β} {l m : List α} {b : β} (h : l.foldlM f b = none) : (l ++ m).foldlM f b = none := by
  rw [List.foldlM_append, h]
  rfl
theorem take_none {α β : Type} {f : β → α → Option β} {l : List α} {b : β} {i : Nat} (h : (l.take i).foldlM f b = none) : l.foldlM f b = none := by
  rw [← List.take_append_drop i l]
  exact fold_none h
theorem fold_snoc {α β : Type} {f : β → α → Option β} {l : List α} {b c : β} {i : Nat} {x : α} (hx : l[i]? = some x) (h : (l.take i).foldlM f b = some c) : (l.take (i + 1)).foldlM f b = f c x := by
  rw [List.take_add_one, hx, List.foldlM_append, h]
  show (f c x >>= pure) = _
  exact bind_pure _
theorem mapM_snoc {α β : Type} {f : α → Option β} {l : List α} {r : List β} {i : Nat} {x : α} (hx : l[i]? = some x) (h : (l.take i).mapM f = some r) : (l.take (i + 1)).mapM f = (f x).map fun y => r ++ [y] := by
  rw [List.take_add_one, hx, List.mapM_append, h]
  show (some r >>= fun xs => ([x] : List α).mapM f >>= fun ys => pure (xs ++ ys)) = _
  rw [List.mapM_cons, List.mapM_nil]
  cases f x <;> rfl
theorem mapM_none {α β : Type} {f : α → Option β} {l : List α} {i : Nat} (h : (l.take i).mapM f = none) : l.mapM f = none := by
  rw [← List.take_append_drop i l, List.mapM_append, h]
  rfl

end
end My

end
section
set_option Elab.async false
set_option linter.all false
set_option maxRecDepth 100000
set_option maxHeartbeats 4000000

namespace My
open PySem L2

section
variable {P : Program} {w : World} {K : PySem.W.Frag} {mg : Str → Option Value} {base : Heap}
theorem sc__law_number : FnScope ["bag"] ["bag"] (defScope s__law_number) := ⟨rfl, rfl, rfl, by decide +kernel, rfl, by decide +kernel, by decide +kernel⟩
theorem c__law_number (T__law_number : TopFn K mg "_law_number" s__law_number ["bag"]) (C_law_draw : Callee P w K mg base "_law_draw" 1 ["bag", "many"] sp_draw) : Callee P w K mg base "_law_number" 2 ["bag"] sp_number := by
  refine T__law_number.ok1 sc__law_number fun f cdv A outer s H v1 Q E hr h => ?_
  have nd := sc__law_number.nd
  obtain ⟨b, l, rfl, Bg, k⟩ := h
  refine' go_body [some (.ref b)] rfl ?hb ?hg
  case hb =>
   refine' pss_cons ?zb ?zc
   case zb =>
    refine' ps_if ?zd ?ze ?zf
    case zd => exact (pt_cmpR op_eq (pe_fn C_law_draw (hr.mono (by first | decide | omega)) (by rfl) (pa_consN (pv 0) (pa_consK pe_int pa_nil))) pe_int (nomark _))
    case ze =>
     refine' pss_one ?zg
     case zg =>
      refine' ps_ret ?zh
      case zh =>
       refine' pe_op ?zi ?zj ?zk
       case zi => exact op_mulB
       case zj =>
        refine' pe_op ?zl ?zm ?zn
        case zl => exact op_sub
        case zm => exact (pe_op op_mulB (pe_fn C_law_draw (hr.mono (by first | decide | omega)) (by rfl) (pa_consN (pv 0) (pa_consK pe_int pa_nil))) pe_int)
        case zn => exact pe_int
       case zk => exact (pe_fn C_law_draw (hr.mono (by first | decide | omega)) (by rfl) (pa_consN (pv 0) (pa_consB (pe_op op_pow pe_int pe_int) pa_nil)))
    case zf => exact pss_nil
   case zc => exact (pss_one (ps_ret (pe_op op_sub (pe_fn C_law_draw (hr.mono (by first | decide | omega)) (by rfl) (pa_consN (pv 0) (pa_consK pe_int pa_nil))) pe_int)))
  walk_at "rd"
  refine use2 ⟨b, l, 8, rfl, rfl, ⟨by decide, by decide⟩, Bg, fun r H1 h0 h1 B1 b1 => ?_⟩
  walk_at "rd"
  refine ite_dd (fun _ => ?_) (fun _ => ?_)
  · walk_at "rd"
    refine use2 ⟨b, l, 2, rfl, rfl, ⟨by decide, by decide⟩, B1, fun r2 H2 g0 g1 B2 b2 => ?_⟩
    walk_at "rd"
    refine rd_I (cbig_of (by omega) (by decide +kernel)) ?_
    walk_at "rd"
    refine rd_I cpow60 ?_
    walk_at "rd"
    refine use2 ⟨b, l, _, rfl, rfl, ⟨by decide +kernel, by decide +kernel⟩, B2, fun r3 H3 f0 f1 B3 b3 => ?_⟩
    rw [ten60] at f1
    refine rd_I (cbig_of (by omega) (by omega)) ?_
    refine k _ _ ?_ B3 ((b1.trans b2).trans b3)
    rw [Int.natAbs_mul]
    have e1 : (r2 * 2 - 1).natAbs ≤ 1 := by omega
    have e2 : r3.natAbs ≤ 10 ^ 60 := by omega
    calc (r2 * 2 - 1).natAbs * r3.natAbs ≤ 1 * 10 ^ 60 := Nat.mul_le_mul e1 e2
      _ = 10 ^ 60 := by rw [Nat.one_mul]
  · walk_at "rd"
    refine use2 ⟨b, l, 9, rfl, rfl, ⟨by decide, by decide⟩, B1, fun r2 H2 g0 g1 B2 b2 => ?_⟩
    walk_at "rd"
    exact k _ _ (by omega) B2 (b1.trans b2)

/-- the law's own numbers, forms, edges, frames, stands -/
noncomputable def N60 (n : Int) : Prop := n.natAbs ≤ 10 ^ 60
theorem N60.sm {n : Int} (h : N60 n) : Sm n := by
  unfold Sm
  refine Nat.lt_of_le_of_lt h ?_
  rw [show 300 = 60 + 240 from rfl, Nat.pow_add]
  have : 1 < 10 ^ 240 := Nat.one_lt_pow (by decide) (by decide)
  generalize (10 : Nat) ^ 240 = B at this
  have h2 : (10 : Nat) ^ 60 * 2 ≤ 10 ^ 60 * B := Nat.mul_le_mul_left _ this
  have h3 : 0 < (10 : Nat) ^ 60 := by decide
  omega
theorem N60.len {n : Int} (h : N60 n) : (numS n).length ≤ 62 := by
  rw [← cs_len]
  rcases num_cases n with ⟨m, rfl, e⟩ | ⟨m, _, rfl, e⟩
  · rw [e]
    have := figs_len 61 m (by decide) (by unfold N60 at h; omega)
    omega
  · rw [e]
    have := figs_len 61 m (by decide) (by unfold N60 at h; omega)
    show _ + 1 ≤ _
    omega
structure FB (f : FormI) : Prop where
  n : N60 f.1
  few : f.2.length ≤ 3
  all : ∀ q ∈ f.2, N60 q.1 ∧ N60 q.2
noncomputable def LB (fs : List FormI) : Prop := fs.length ≤ 4 ∧ ∀ f ∈ fs, FB f
noncomputable def EB (e : EdgeI) : Prop := N60 e.1 ∧ N60 e.2.2 ∧ LB e.2.1
theorem pick5 : ∀ r : Nat, r < 5 → ∃ m : Nat, m ≤ 3 ∧ ([V.int 0, V.int 1, V.int 1, V.int 2, V.int 3] : List V)[r]? = some (.int m)
  | 0, _ => ⟨0, by decide, rfl⟩
  | 1, _ => ⟨1, by decide, rfl⟩
  | 2, _ => ⟨1, by decide, rfl⟩
  | 3, _ => ⟨2, by decide, rfl⟩
  | 4, _ => ⟨3, by decide, rfl⟩
  | n + 5, h => absurd h (by omega)
noncomputable def sp_wforms : Sp := sp1 fun x H Q => ∃ b l, x = .ref b ∧ BagAt H b l ∧ ∀ fs v H', LB fs → Rep H' (formsD fs) v → BagAt H' b l → BSame b H H' → Q v H'
theorem sc__law_wild_forms : FnScope ["bag", "found", "k", "pairs"] ["bag"] (defScope s__law_wild_forms) := ⟨rfl, rfl, rfl, by decide +kernel, rfl, by decide +kernel, by decide +kernel⟩
theorem c__law_wild_forms (B : Blt mg) (T__law_wild_forms : TopFn K mg "_law_wild_forms" s__law_wild_forms ["bag"]) (C_law_draw : Callee P w K mg base "_law_draw" 1 ["bag", "many"] sp_draw) (C_law_number : Callee P w K mg base "_law_number" 2 ["bag"] sp_number) : Callee P w K mg base "_law_wild_forms" 3 ["bag"] sp_wforms := by
  refine T__law_wild_forms.ok1 sc__law_wild_forms fun f cdv A outer s H v1 Q E hr h => ?_
  have nd := sc__law_wild_forms.nd
  obtain ⟨b, l, rfl, Bg, k⟩ := h
  refine' go_body [some (.ref b), none, none, none] rfl ?hb ?hg
  case hb =>
   refine' pss_cons ?zo ?zp
   case zo => exact (ps_setL (i := 1) nd rfl (Or.inl rfl) (pe_lst pa_nil))
   case zp =>
    refine' pss_cons ?zq ?zr
    case zq =>
     refine' ps_for ?zs ?zt ?zu ?zv ?zw
     case zs => exact PassesOwn.never
     case zt => exact rfl
     case zu =>
      refine' pi_range1 ?zx ?zy ?zz
      case zx => exact rfl
      case zy => exact B.b_range
      case zz => exact (pa_consC (pe_fn C_law_draw (hr.mono (by first | decide | omega)) (by rfl) (pa_consN (pv 0) (pa_consK pe_int pa_nil))) pa_nil)
     case zv => exact (pg_name (i := 2) nd rfl (Or.inl rfl))
     case zw =>
      refine' pss_cons ?zba ?zbb
      case zba =>
       refine' ps_setc (i := 3) (LN := ["j"]) (FN := ["bag"]) (fr := [0]) ?zbc ?zbd ?zbe ?zbf ?zbg ?zbh ?zbi ?zbj ?zbk
       case zbc => exact rfl
       case zbd => exact nd
       case zbe => exact rfl
       case zbf => exact rfl
       case zbg => exact (bk_of (by rfl))
       case zbh =>
        refine' pi_range1 ?zbl ?zbm ?zbn
        case zbl => exact rfl
        case zbm => exact B.b_range
        case zbn =>
         refine' pa_consS ?zbo ?zbp
         case zbo =>
          refine' pe_ix ?zbq ?zbr ?zbs ?zbt
          case zbq => exact (k_ix (K := K) rfl)
          case zbr => exact (pe_lst (pa_consK pe_int (pa_consK pe_int (pa_consK pe_int (pa_consK pe_int (pa_consK pe_int pa_nil))))))
          case zbs => exact (pe_fn C_law_draw (hr.mono (by first | decide | omega)) (by rfl) (pa_consN (pv 0) (pa_consK pe_int pa_nil)))
          case zbt => exact (fun _ _ => rfl)
         case zbp => exact pa_nil
       case zbi =>
        intro cl C fp pins s H
        exact (pg_name (i := 0) (show ((["j"] : List Str) ++ (["bag"] : List Str)).Nodup by decide +kernel) rfl (Or.inl rfl))
       case zbj =>
        intro cl C fp pins s H
        exact pts_nil
       case zbk =>
        intro cl C fp pins s H
        refine' pe_tup ?zbu
        case zbu =>
         refine' pa_consC ?zbv ?zbw
         case zbv => exact (pe_fn C_law_number (hr.mono (by first | decide | omega)) (by rfl) (pa_consN (pv 1) pa_nil))
         case zbw => exact (pa_consC (pe_fn C_law_number (hr.mono (by first | decide | omega)) (by rfl) (pa_consN (pv 1) pa_nil)) pa_nil)
      case zbb =>
       refine' pss_one ?zbx
       case zbx =>
        refine' ps_expr ?zby
        case zby =>
         refine' k_bm (K := K) ?zbz ?zca ?zcb ?zcc ?zcd ?zce ?zcf
         case zbz => exact rfl
         case zca => exact PySem.F.plainAttrs_list
         case zcb => exact PySem.F.slot_list_append
         case zcc => exact PySem.F.type_list_append
         case zcd => exact mt_append
         case zce => exact (pv 1)
         case zcf =>
          refine' pa_consT ?zcg ?zch
          case zcg =>
           refine' pe_tup ?zci
           case zci =>
            refine' pa_consC ?zcj ?zck
            case zcj => exact (pe_fn C_law_number (hr.mono (by first | decide | omega)) (by rfl) (pa_consN (pv 0) pa_nil))
            case zck => exact (pa_consC (pe_callTy (k_tupOf (K := K) rfl) (by rfl) B.b_tuple bt_tuple (pa_consN (pv 3) pa_nil)) pa_nil)
          case zch => exact pa_nil
    case zr => exact (pss_one (ps_ret (pe_callTy (k_tupOf (K := K) rfl) (by rfl) B.b_tuple bt_tuple (pa_consN (pv 1) pa_nil))))
  walk_at "rd"
  walk_at "mk"; intro q hq
  have s0 := Same.new (o := .lst []) hq
  have nqb : q ≠ b := fun z => (Bg.ne hq).1 z.symm
  have nql : q ≠ l := fun z => (Bg.ne hq).2 z.symm
  walk_at "rd"
  refine use2 ⟨b, l, 5, rfl, rfl, ⟨by decide, by decide⟩, Bg.mono s0, fun n1 H1 g0 g1 B1 b1 => ?_⟩
  walk_at "rd"
  refine irK_of (by omega) (by omega) ?_
  refine for_range (n := n1.toNat) (fun i σ Hx => ∃ (fs : List FormI) (vs : List V) (x2 x3 : Option V), σ = [some (.ref b), some (.ref q), x2, x3] ∧ Hx q = some (.lst vs) ∧ Reps Hx (fs.map fD) vs ∧ fs.length = i ∧ (∀ f ∈ fs, FB f) ∧ BagAt Hx b l ∧ BSame b H Hx)
    ⟨[], [], none, none, rfl, b1 _ _ nqb upd_same, reps_nil, rfl, (fun f hf => by cases hf), B1, ((BSame.refl b H).to s0).trans b1⟩ ?_ ?_
  · rintro i σ Hx hi ⟨fs, vs, x2, x3, rfl, hqx, rv, hl, ok, Bx, bx⟩
    have hvl := rv.length
    rw [List.length_map] at hvl
    walk_at "rd"
    walk_at "mk"; intro p0 hp0
    have s1 := Same.new (o := .lst [V.int 0, V.int 1, V.int 1, V.int 2, V.int 3]) hp0
    have e1 : upd Hx p0 (.lst [V.int 0, V.int 1, V.int 1, V.int 2, V.int 3]) p0 = some (.lst [V.int 0, V.int 1, V.int 1, V.int 2, V.int 3]) := upd_same
    have n0 : p0 ≠ b := fun z => (Bx.ne hp0).1 z.symm
    generalize upd Hx p0 (.lst [V.int 0, V.int 1, V.int 1, V.int 2, V.int 3]) = H2 at s1 e1
    walk_at "rd"
    refine use2 ⟨b, l, 5, rfl, rfl, ⟨by decide, by decide⟩, Bx.mono s1, fun r H3 r0 r1 B3 b3 => ?_⟩
    obtain ⟨r, rfl⟩ := Int.eq_ofNat_of_zero_le r0
    obtain ⟨m, hm, em⟩ := pick5 r (by omega)
    refine rd_ixaL (b3 _ _ n0 e1) (atI_at (n := r) rfl em) ?_
    walk_at "rd"
    refine irK_of (by omega) (by omega) ?_
    refine cw_range (n := m) (small_le (by omega)) (fun j ys σ Hy => (∃ x1, σ = [x1, some (.ref b)]) ∧ ∃ zs : List (Int × Int), Reps Hy (zs.map pairD) ys ∧ zs.length = j ∧ (∀ z ∈ zs, N60 z.1 ∧ N60 z.2) ∧ BagAt Hy b l ∧ BSame b H3 Hy) ⟨⟨none, rfl⟩, [], reps_nil, rfl, (fun z hz => by cases hz), B3, BSame.refl _ _⟩ ?_ ?_
    · rintro j ys σ Hy hj hle hlt ⟨⟨x1, rfl⟩, zs, rz, hz, hb, By, bY⟩
      walk_at "rd"
      refine use1 ⟨b, l, rfl, By, fun n4 H4 t4 B4 b4 => ?_⟩
      walk_at "rd"
      refine use1 ⟨b, l, rfl, B4, fun n5 H5 t5 B5 b5 => ?_⟩
      walk_at "rd"
      walk_at "mk"; intro p6 hp6
      have s6 := Same.new (o := .tup [V.int n4, V.int n5]) hp6
      refine ⟨hlt, by simpa using hle, ⟨_, rfl⟩, zs ++ [(n4, n5)], ?_, by simp [hz], fun z hz' => ?_, B5.mono s6, (bY.trans (b4.trans b5)).to s6⟩
      · rw [List.map_append]
        exact Reps.append ((rz.mono ((b4.trans b5).ts By)).mono s6.ts) (reps_cons (rep_tup upd_same (reps_cons rep_int (reps_cons rep_int reps_nil))) reps_nil)
      · rcases List.mem_append.mp hz' with hz' | hz'
        · exact hb z hz'
        · rw [List.mem_singleton.mp hz']; exact ⟨t4, t5⟩
    rintro ys σ Hy _ ⟨⟨x1, rfl⟩, zs, rz, hz, hb, By, bY⟩ p6 hp6
    have s6 := Same.new (o := .lst ys) hp6
    have e6 : upd Hy p6 (.lst ys) p6 = some (.lst ys) := upd_same
    have n6 : p6 ≠ b := fun z => (By.ne hp6).1 z.symm
    have B6 := By.mono s6
    have rz6 := rz.mono s6.ts
    generalize upd Hy p6 (.lst ys) = H6 at s6 e6 B6 rz6
    walk_at "rd"
    have hq6 := s6 _ _ (bY _ _ nqb (b3 _ _ nqb (s1 _ _ hqx)))
    refine ⟨.inl ⟨rfl, vs, SqL.of hq6⟩, ?_⟩
    walk_at "rd"
    refine use1 ⟨b, l, rfl, B6, fun n7 H7 t7 B7 b7 => ?_⟩
    walk_at "rd"
    refine rd_tupL (SqL.of (b7 _ _ n6 e6)) fun p8 hp8 => ?_
    have s8 := Same.new (o := .tup ys) hp8
    have e8 : upd H7 p8 (.tup ys) p8 = some (.tup ys) := upd_same
    have B8 := B7.mono s8
    have rz8 := (rz6.mono (b7.ts B6)).mono s8.ts
    have hq8 := s8 _ _ (b7 _ _ nqb hq6)
    generalize upd H7 p8 (.tup ys) = H8 at s8 e8 B8 rz8 hq8
    walk_at "rd"
    walk_at "mk"; intro p9 hp9
    have s9 := Same.new (o := .tup [V.int n7, V.ref p8]) hp9
    have e9 : upd H8 p9 (.tup [V.int n7, V.ref p8]) p9 = some (.tup [V.int n7, V.ref p8]) := upd_same
    have B9 := B8.mono s9
    have rz9 := rz8.mono s9.ts
    have hq9 := s9 _ _ hq8
    have e89 := s9 _ _ e8
    generalize upd H8 p9 (.tup [V.int n7, V.ref p8]) = H9 at s9 e9 B9 rz9 hq9 e89
    walk_at "rd"
    refine rd_append hq9 (Nat.lt_of_le_of_lt (show vs.length ≤ 1000 by omega) (by decide)) ?_
    walk_at "rd"
    have bxx : BSame b Hx H9 := ((((((BSame.of s1).trans b3).trans bY).to s6).trans b7).to s8).to s9
    have tw : TSame H9 (upd H9 q (.lst (vs ++ [V.ref p9]))) := TSame.wr (fun zs z => by rw [hq9] at z; cases z)
    refine ⟨fs ++ [(n7, zs)], vs ++ [V.ref p9], _, _, rfl, upd_same, ?_, by simp [hl], fun f hf => ?_, B9.wr (Ne.symm nqb) (Ne.symm nql), (bx.trans bxx).wrNew hq⟩
    · rw [List.map_append]
      exact Reps.append ((rv.mono (bxx.ts Bx)).mono tw) (reps_cons ((rep_tup e9 (reps_cons rep_int (reps_cons (rep_tup e89 rz9) reps_nil))).mono tw) reps_nil)
    · rcases List.mem_append.mp hf with hf | hf
      · exact ok f hf
      · rw [List.mem_singleton.mp hf]
        exact ⟨t7, by show zs.length ≤ 3; omega, hb⟩
  · rintro σ Hx ⟨fs, vs, x2, x3, rfl, hqx, rv, hl, ok, Bx, bx⟩
    walk_at "rd"
    refine rd_tupL (SqL.of hqx) fun p8 hp8 => ?_
    have s8 := Same.new (o := .tup vs) hp8
    exact k fs _ _ ⟨by omega, ok⟩ (rep_tup upd_same (rv.mono s8.ts)) (Bx.mono s8) (bx.to s8)
noncomputable def sp_wedge : Sp := sp1 fun x H Q => ∃ b l, x = .ref b ∧ BagAt H b l ∧ ∀ e v H', EB e → Rep H' (edgeD e) v → BagAt H' b l → BSame b H H' → Q v H'
theorem sc__law_wild_edge : FnScope ["bag"] ["bag"] (defScope s__law_wild_edge) := ⟨rfl, rfl, rfl, by decide +kernel, rfl, by decide +kernel, by decide +kernel⟩
theorem c__law_wild_edge (T__law_wild_edge : TopFn K mg "_law_wild_edge" s__law_wild_edge ["bag"]) (C_law_number : Callee P w K mg base "_law_number" 2 ["bag"] sp_number) (C_law_wild_forms : Callee P w K mg base "_law_wild_forms" 3 ["bag"] sp_wforms) : Callee P w K mg base "_law_wild_edge" 4 ["bag"] sp_wedge := by
  refine T__law_wild_edge.ok1 sc__law_wild_edge fun f cdv A outer s H v1 Q E hr h => ?_
  have nd := sc__law_wild_edge.nd
  obtain ⟨b, l, rfl, Bg, k⟩ := h
  refine' go_body [some (.ref b)] rfl ?hb ?hg
  case hb =>
   refine' pss_one ?zcl
   case zcl =>
    refine' ps_ret ?zcm
    case zcm =>
     refine' pe_tup ?zcn
     case zcn =>
      refine' pa_consC ?zco ?zcp
      case zco => exact (pe_fn C_law_number (hr.mono (by first | decide | omega)) (by rfl) (pa_consN (pv 0) pa_nil))
      case zcp =>
       refine' pa_consC ?zcq ?zcr
       case zcq => exact (pe_fn C_law_wild_forms (hr.mono (by first | decide | omega)) (by rfl) (pa_consN (pv 0) pa_nil))
       case zcr => exact (pa_consC (pe_fn C_law_number (hr.mono (by first | decide | omega)) (by rfl) (pa_consN (pv 0) pa_nil)) pa_nil)
  walk_at "rd"
  refine use1 ⟨b, l, rfl, Bg, fun n1 H1 t1 B1 b1 => ?_⟩
  walk_at "rd"
  refine use1 ⟨b, l, rfl, B1, fun fs v2 H2 t2 r2 B2 b2 => ?_⟩
  walk_at "rd"
  refine use1 ⟨b, l, rfl, B2, fun n3 H3 t3 B3 b3 => ?_⟩
  walk_at "rd"
  walk_at "mk"; intro p4 hp4
  have s4 := Same.new (o := .tup [V.int n1, v2, V.int n3]) hp4
  exact k (n1, fs, n3) _ _ ⟨t1, t3, t2⟩ (rep_tup upd_same (reps_cons rep_int (reps_cons ((r2.mono (b3.ts B2)).mono s4.ts) (reps_cons rep_int reps_nil)))) (B3.mono s4) (((b1.trans b2).trans b3).to s4)

end
end My

end
section
set_option Elab.async false
set_option linter.all false
set_option maxRecDepth 100000
set_option maxHeartbeats 4000000

namespace My
open PySem L2

section
variable {P : Program} {w : World} {K : PySem.W.Frag} {mg : Str → Option Value} {base : Heap}
/-- words that stand in a list -/
noncomputable def WsOk (ws : List Str) : Prop := ws.length ≤ 1000000 ∧ ∀ w ∈ ws, isAsc w ∧ w.length ≤ 900000
theorem WsOk.split {z : Str} {c : Nat} (hz : z.length ≤ 900000) (az : isAsc z) : WsOk (Txt.split z ⟨#[c]⟩) := by
  have := split_len z ⟨#[c]⟩
  exact ⟨by omega, fun w hw => ⟨asc_part hw az, by have := (split_part hw).2; omega⟩⟩
theorem WsOk.sub {ws vs : List Str} (h : WsOk ws) (hl : vs.length ≤ ws.length) (hs : ∀ v ∈ vs, v ∈ ws) : WsOk vs := ⟨by have := h.1; omega, fun w hw => h.2 w (hs w hw)⟩
theorem WsOk.drop {ws : List Str} (h : WsOk ws) (k : Nat) : WsOk (ws.drop k) := h.sub (by rw [List.length_drop]; omega) fun v hv => List.mem_of_mem_drop hv
theorem WsOk.take {ws : List Str} (h : WsOk ws) (k : Nat) : WsOk (ws.take k) := h.sub (by rw [List.length_take]; omega) fun v hv => List.mem_of_mem_take hv
section
variable {C_NoText C_LaneError C_NotFormed C_Faulty : Addr}
noncomputable def sp_read_number (C : Addr) : Sp := spX1 fun x H Q E => ∃ z, x = .str z ∧ z.length ≤ 900000 ∧ isAsc z ∧ (∀ n, wholeP 300 z = some n → ∀ H', Same H H' → Q (.int n) H') ∧ (wholeP 300 z = none → ∀ H', Same H H' → E (.ref C) none H')
theorem sc_read_number : FnScope ["text"] ["text"] (defScope s_read_number) := ⟨rfl, rfl, rfl, by decide +kernel, rfl, by decide +kernel, by decide +kernel⟩
theorem c_read_number (B : Blt mg) (G : Glb K w mg) (HX : ExH K mg C_NoText C_LaneError C_NotFormed C_Faulty) (T_read_number : TopFn K mg "read_number" s_read_number ["text"]) (Cread_whole : CalleeX P w K mg base C_NoText "read_whole" 1 ["text", "most"] (sp_read_whole C_NoText)) : CalleeX P w K mg base C_NoText "read_number" 2 ["text"] (sp_read_number C_NoText) := by
  refine T_read_number.okX1 sc_read_number fun f cdv A outer s H v1 Q E hr h => ?_
  have nd := sc_read_number.nd
  obtain ⟨z, rfl, hz, az, k, no⟩ := h
  refine' go_bodyX [some (.str z)] rfl ?hb ?hg
  case hb =>
   refine' pss_one ?zb
   case zb => exact (ps_ret (pe_fnX Cread_whole (hr.mono (by first | decide | omega)) (by rfl) (pa_consN (pv 0) (pa_consN (pe_cint (by rfl) G.c_MOST_FIGURES) pa_nil))))
  walk_at "rd"
  exact useX2 ⟨z, 300, rfl, rfl, by decide, hz, az, fun n H' hn s' => k n hn H' s', fun H' hn s' => no hn H' s'⟩
/-- a comprehension that reads the words of a list -/
theorem words_drop {ws : List Str} {k : Nat} (hk : k ≤ ws.length) : cutV (ws.map V.str) (some (k : Int)) none = (ws.drop k).map V.str := by
  rw [cut_from (k := k) (by rw [List.length_map]; exact hk), List.map_drop]
noncomputable def sp_read_numbers (C : Addr) : Sp := spX2 fun x y H Q E => ∃ a ws many, x = .ref a ∧ y = .int (many : Nat) ∧ H a = some (.lst (ws.map V.str)) ∧ WsOk ws ∧ (∀ ns, numsP many ws = some ns → ∀ p H', H' p = some (.lst (ns.map V.int)) → Same H H' → Q (.ref p) H') ∧ (numsP many ws = none → ∀ H', Same H H' → E (.ref C) none H')
theorem sc_read_numbers : FnScope ["words", "many"] ["words", "many"] (defScope s_read_numbers) := ⟨rfl, rfl, rfl, by decide +kernel, rfl, by decide +kernel, by decide +kernel⟩
theorem c_read_numbers (B : Blt mg) (G : Glb K w mg) (HX : ExH K mg C_NoText C_LaneError C_NotFormed C_Faulty) (T_read_numbers : TopFn K mg "read_numbers" s_read_numbers ["words", "many"]) (Cread_number : CalleeX P w K mg base C_NoText "read_number" 2 ["text"] (sp_read_number C_NoText)) : CalleeX P w K mg base C_NoText "read_numbers" 3 ["words", "many"] (sp_read_numbers C_NoText) := by
  refine T_read_numbers.okX2 sc_read_numbers fun f cdv A outer s H v1 v2 Q E hr h => ?_
  have nd := sc_read_numbers.nd
  obtain ⟨a, ws, many, rfl, rfl, ha, wo, k, no⟩ := h
  have hwl := wo.1
  refine' go_bodyX [some (.ref a), some (.int (many : Nat))] rfl ?hb ?hg
  case hb =>
   refine' pss_cons ?zc ?zd
   case zc =>
    refine' ps_if ?ze ?zf ?zg
    case ze => exact (pt_cmpR op_ne (pe_callB (k_len (K := K) rfl) (by rfl) B.b_len bt_len (pa_consN (pv 0) pa_nil)) (pe_op op_add (pv 1) pe_int) (nomark _))
    case zf => exact (pss_one (ps_raise (by rfl) HX.m_NoText HX.exc (pa_consK pe_str pa_nil)))
    case zg => exact pss_nil
   case zd =>
    refine' pss_one ?zh
    case zh =>
     refine' ps_ret ?zi
     case zi =>
      refine' pe_compX (LN := ["word"]) (FN := []) (fr := []) ?zj ?zk ?zl ?zm ?zn ?zo
      case zj => exact rfl
      case zk => exact (bk_of (by rfl))
      case zl => exact (k_pi_list (K := K) rfl (pe_slice (k_sl (K := K) rfl) (pv 0) (po_some pe_int) po_none))
      case zm =>
       intro cl C fp pins s H
       exact (pg_name (i := 0) (show ((["word"] : List Str) ++ ([] : List Str)).Nodup by decide +kernel) rfl (Or.inl rfl))
      case zn =>
       intro cl C fp pins s H
       exact pts_nil
      case zo =>
       intro cl C fp pins s H hin
       exact (pe_fnXb hin Cread_number (hr.mono (by first | decide | omega)) (by rfl) (pa_consN (pv 0) pa_nil))
  walk_at "rd"
  refine rd_lenL' (SqL.of ha) ?_
  walk_at "rd"
  refine ite_nd (fun h1 => ?_) (fun h1 => ?_)
  · walk_at "rd"
    refine ⟨by decide, no ?_ _ (Same.refl _)⟩
    unfold numsP
    rw [if_neg]
    intro e
    rw [List.length_map, e] at h1
    exact h1 (by omega)
  rw [List.length_map] at h1
  have hl : ws.length = many + 1 := by omega
  have hN : numsP many ws = (ws.drop 1).mapM (wholeP 300) := by unfold numsP; rw [if_pos hl]
  walk_at "rd"
  refine rd_slL (SqL.of ha) fun p1 hp1 => ?_
  rw [show cutV (ws.map V.str) (some 1) none = (ws.drop 1).map V.str from words_drop (k := 1) (by omega)]
  have wd := wo.drop 1
  generalize ws.drop 1 = vs at hN wd
  have s1 := Same.new (o := .lst (vs.map V.str)) hp1
  have e1 : upd H p1 (.lst (vs.map V.str)) p1 = some (.lst (vs.map V.str)) := upd_same
  generalize upd H p1 (.lst (vs.map V.str)) = H1 at s1 e1
  refine ilK_of (SqL.of e1) ?_
  refine cw_list (xs := vs.map V.str) (big_le (by rw [List.length_map]; exact wd.1)) (fun j ys σ Hy => (∃ x1, σ = [x1]) ∧ Same H1 Hy ∧ ∃ ns : List Int, (vs.take j).mapM (wholeP 300) = some ns ∧ ys = ns.map V.int) ⟨⟨none, rfl⟩, Same.refl _, [], rfl, rfl⟩ (fun j ys σ Hy _ ⟨_, s4, _⟩ => SqL.of (s4 _ _ e1)) ?_ ?_
  · rintro j x ys σ Hy hx hle hlt ⟨⟨x1, rfl⟩, s4, ns, hns, rfl⟩
    rw [List.getElem?_map] at hx
    obtain ⟨wd', ew, rfl⟩ := Option.map_eq_some_iff.mp hx
    obtain ⟨aw, hw⟩ := wd.2 wd' (List.mem_of_getElem? ew)
    have nx := mapM_snoc (f := wholeP 300) ew hns
    walk_at "rd"
    refine useX1 ⟨wd', rfl, hw, aw, fun n hn H5 s5 => ?_, fun hn H5 s5 => no (by rw [hN, mapM_none (i := j + 1) (by rw [nx, hn]; rfl)]) _ ((s1.trans s4).trans s5)⟩
    refine ⟨hlt, by simpa using hle, ⟨_, rfl⟩, s4.trans s5, ns ++ [n], by rw [nx, hn]; rfl, by simp⟩
  rintro ys σ Hy _ ⟨⟨x1, rfl⟩, s4, ns, hns, rfl⟩ p5 hp5
  rw [List.length_map, List.take_length] at hns
  walk_at "rd"
  exact k ns (by rw [hN, hns]) p5 _ upd_same ((s1.trans s4).trans (Same.new hp5))
noncomputable def sp_read_pair (C : Addr) : Sp := spX1 fun x H Q E => ∃ z, x = .str z ∧ z.length ≤ 900000 ∧ isAsc z ∧ (∀ q, pairP z = some q → ∀ v H', Rep H' (pairD q) v → Same H H' → Q v H') ∧ (pairP z = none → ∀ H', Same H H' → E (.ref C) none H')
theorem sc_read_pair : FnScope ["part", "numbers"] ["part"] (defScope s_read_pair) := ⟨rfl, rfl, rfl, by decide +kernel, rfl, by decide +kernel, by decide +kernel⟩
theorem c_read_pair (B : Blt mg) (G : Glb K w mg) (HX : ExH K mg C_NoText C_LaneError C_NotFormed C_Faulty) (T_read_pair : TopFn K mg "read_pair" s_read_pair ["part"]) (Cread_number : CalleeX P w K mg base C_NoText "read_number" 2 ["text"] (sp_read_number C_NoText)) : CalleeX P w K mg base C_NoText "read_pair" 3 ["part"] (sp_read_pair C_NoText) := by
  refine T_read_pair.okX1 sc_read_pair fun f cdv A outer s H v1 Q E hr h => ?_
  have nd := sc_read_pair.nd
  obtain ⟨z, rfl, hz, az, k, no⟩ := h
  refine' go_bodyX [some (.str z), none] rfl ?hb ?hg
  case hb =>
   refine' pss_cons ?zp ?zq
   case zp =>
    refine' ps_setC (i := 1) ?zr ?zs ?zt ?zu
    case zr => exact nd
    case zs => exact rfl
    case zt => exact (Or.inl rfl)
    case zu => exact (k_bm (K := K) rfl PySem.F.plainAttrs_str PySem.F.slot_str_split PySem.F.type_str_split mt_split (pv 0) (pa_consK pe_str pa_nil))
   case zq =>
    refine' pss_cons ?zv ?zw
    case zv =>
     refine' ps_if ?zx ?zy ?zz
     case zx => exact (pt_cmpR op_ne (pe_callB (k_len (K := K) rfl) (by rfl) B.b_len bt_len (pa_consN (pv 1) pa_nil)) pe_int (nomark _))
     case zy => exact (pss_one (ps_raise (by rfl) HX.m_NoText HX.exc (pa_consK pe_str pa_nil)))
     case zz => exact pss_nil
    case zw =>
     refine' pss_one ?zba
     case zba =>
      refine' ps_ret ?zbb
      case zbb =>
       refine' pe_tup ?zbc
       case zbc =>
        refine' pa_consC ?zbd ?zbe
        case zbd => exact (pe_fnX Cread_number (hr.mono (by first | decide | omega)) (by rfl) (pa_consS (pe_ix (k_ix (K := K) rfl) (pv 1) pe_int (fun _ _ => rfl)) pa_nil))
        case zbe =>
         refine' pa_consC ?zbf ?zbg
         case zbf => exact (pe_fnX Cread_number (hr.mono (by first | decide | omega)) (by rfl) (pa_consS (pe_ix (k_ix (K := K) rfl) (pv 1) pe_int (fun _ _ => rfl)) pa_nil))
         case zbg => exact pa_nil
  walk_at "rd"
  refine ⟨rfl, ?_⟩
  walk_at "rd"
  refine rd_split (by decide) (big_le (by omega)) fun p1 hp1 => ?_
  rw [show (Str.ofString ":") = (⟨#[58]⟩ : Str) from colon_eq]
  have wo := WsOk.split (c := 58) hz az
  have eP : pairP z = pairL (Txt.split z ⟨#[58]⟩) := by unfold pairP; rw [colon_eq]
  generalize Txt.split z ⟨#[58]⟩ = ps at wo eP
  have s1 := Same.new (o := .lst (ps.map V.str)) hp1
  have e1 : upd H p1 (.lst (ps.map V.str)) p1 = some (.lst (ps.map V.str)) := upd_same
  generalize upd H p1 (.lst (ps.map V.str)) = H1 at s1 e1
  walk_at "rd"
  refine rd_lenL' (SqL.of e1) ?_
  walk_at "rd"
  refine ite_nd (fun h1 => ?_) (fun h1 => ?_)
  · walk_at "rd"
    refine ⟨by decide, no ?_ _ s1⟩
    rw [eP]
    rcases ps with _ | ⟨x, _ | ⟨y, _ | ⟨y2, r2⟩⟩⟩
    · rfl
    · rfl
    · exact absurd rfl h1
    · rfl
  rw [List.length_map] at h1
  obtain ⟨x, y, rfl⟩ : ∃ x y, ps = [x, y] := by
    rcases ps with _ | ⟨t, _ | ⟨b, _ | ⟨b2, r2⟩⟩⟩
    · simp at h1
    · simp at h1
    · exact ⟨t, b, rfl⟩
    · simp only [List.length_cons] at h1; omega
  have eP : pairP z = both Prod.mk (wholeP 300 x) (wholeP 300 y) := eP
  obtain ⟨ax, lx⟩ := wo.2 x List.mem_cons_self
  obtain ⟨ay, ly⟩ := wo.2 y (List.mem_cons_of_mem _ List.mem_cons_self)
  walk_at "rd"
  refine rd_ixaL e1 (v := .str x) (atI_at (n := 0) rfl rfl) ?_
  walk_at "rd"
  refine useX1 ⟨x, rfl, lx, ax, fun n hn H2 s2 => ?_, fun hn H2 s2 => no (by rw [eP, hn]; rfl) _ (s1.trans s2)⟩
  walk_at "rd"
  refine rd_ixaL (s2 _ _ e1) (v := .str y) (atI_at (n := 1) rfl rfl) ?_
  walk_at "rd"
  refine useX1 ⟨y, rfl, ly, ay, fun m hm H3 s3 => ?_, fun hm H3 s3 => no (by rw [eP, hn, hm]; rfl) _ ((s1.trans s2).trans s3)⟩
  walk_at "rd"
  walk_at "mk"; intro p4 hp4
  have s4 := Same.new (o := .tup [V.int n, V.int m]) hp4
  exact k (n, m) (by rw [eP, hn, hm]; rfl) (.ref p4) _ (rep_tup upd_same (reps_cons rep_int (reps_cons rep_int reps_nil))) (((s1.trans s2).trans s3).trans s4)
end

end
end My

end
section
set_option Elab.async false
set_option linter.all false
set_option maxRecDepth 100000
set_option maxHeartbeats 4000000

namespace My
open PySem L2

section
variable {P : Program} {w : World} {K : PySem.W.Frag} {mg : Str → Option Value} {base : Heap}
section
variable {C_NoText C_LaneError C_NotFormed C_Faulty : Addr}
noncomputable def sp_read_form (C : Addr) : Sp := spX1 fun x H Q E => ∃ z, x = .str z ∧ z.length ≤ 900000 ∧ isAsc z ∧ (∀ q, formP z = some q → ∀ v H', Rep H' (fD q) v → Same H H' → Q v H') ∧ (formP z = none → ∀ H', Same H H' → E (.ref C) none H')
theorem sc_read_form : FnScope ["word", "parts"] ["word"] (defScope s_read_form) := ⟨rfl, rfl, rfl, by decide +kernel, rfl, by decide +kernel, by decide +kernel⟩
theorem c_read_form (B : Blt mg) (G : Glb K w mg) (HX : ExH K mg C_NoText C_LaneError C_NotFormed C_Faulty) (T_read_form : TopFn K mg "read_form" s_read_form ["word"]) (Cread_number : CalleeX P w K mg base C_NoText "read_number" 2 ["text"] (sp_read_number C_NoText)) (Cread_pair : CalleeX P w K mg base C_NoText "read_pair" 3 ["part"] (sp_read_pair C_NoText)) : CalleeX P w K mg base C_NoText "read_form" 4 ["word"] (sp_read_form C_NoText) := by
  refine T_read_form.okX1 sc_read_form fun f cdv A outer s H v1 Q E hr h => ?_
  have nd := sc_read_form.nd
  obtain ⟨z, rfl, hz, az, k, no⟩ := h
  refine' go_bodyX [some (.str z), none] rfl ?hb ?hg
  case hb =>
   refine' pss_cons ?zb ?zc
   case zb =>
    refine' ps_setC (i := 1) ?zd ?ze ?zf ?zg
    case zd => exact nd
    case ze => exact rfl
    case zf => exact (Or.inl rfl)
    case zg => exact (k_bm (K := K) rfl PySem.F.plainAttrs_str PySem.F.slot_str_split PySem.F.type_str_split mt_split (pv 0) (pa_consK pe_str pa_nil))
   case zc =>
    refine' pss_one ?zh
    case zh =>
     refine' ps_ret ?zi
     case zi =>
      refine' pe_tup ?zj
      case zj =>
       refine' pa_consC ?zk ?zl
       case zk => exact (pe_fnX Cread_number (hr.mono (by first | decide | omega)) (by rfl) (pa_consS (pe_ix (k_ix (K := K) rfl) (pv 1) pe_int (fun _ _ => rfl)) pa_nil))
       case zl =>
        refine' pa_consC ?zm ?zn
        case zm =>
         refine' pe_callTy ?zo ?zp ?zq ?zr ?zs
         case zo => exact (k_tupOf (K := K) rfl)
         case zp => exact (by rfl)
         case zq => exact B.b_tuple
         case zr => exact bt_tuple
         case zs =>
          refine' pa_consM ?zt ?zu
          case zt =>
           refine' pe_compX (LN := ["part"]) (FN := []) (fr := []) ?zv ?zw ?zx ?zy ?zz ?zba
           case zv => exact rfl
           case zw => exact (bk_of (by rfl))
           case zx => exact (k_pi_list (K := K) rfl (pe_slice (k_sl (K := K) rfl) (pv 1) (po_some pe_int) po_none))
           case zy =>
            intro cl C fp pins s H
            exact (pg_name (i := 0) (show ((["part"] : List Str) ++ ([] : List Str)).Nodup by decide +kernel) rfl (Or.inl rfl))
           case zz =>
            intro cl C fp pins s H
            exact pts_nil
           case zba =>
            intro cl C fp pins s H hin
            exact (pe_fnXb hin Cread_pair (hr.mono (by first | decide | omega)) (by rfl) (pa_consN (pv 0) pa_nil))
          case zu => exact pa_nil
        case zn => exact pa_nil
  walk_at "rd"
  refine ⟨rfl, ?_⟩
  walk_at "rd"
  refine rd_split (by decide) (big_le (by omega)) fun p1 hp1 => ?_
  rw [show (Str.ofString ";") = (⟨#[59]⟩ : Str) from semi_eq]
  have wo := WsOk.split (c := 59) hz az
  have eP : formP z = formL (Txt.split z ⟨#[59]⟩) := by unfold formP; rw [semi_eq]
  obtain ⟨x, vs, hws⟩ : ∃ w0 ws, Txt.split z ⟨#[59]⟩ = w0 :: ws := by
    cases hws : Txt.split z ⟨#[59]⟩ with
    | nil => exact absurd hws (split_ne _ _)
    | cons w0 ws => exact ⟨w0, ws, rfl⟩
  rw [hws] at wo eP ⊢
  have eP : formP z = both Prod.mk (wholeP 300 x) (vs.mapM pairP) := eP
  have s1 := Same.new (o := .lst ((x :: vs).map V.str)) hp1
  have e1 : upd H p1 (.lst ((x :: vs).map V.str)) p1 = some (.lst ((x :: vs).map V.str)) := upd_same
  generalize upd H p1 (.lst ((x :: vs).map V.str)) = H1 at s1 e1
  obtain ⟨ax, lx⟩ := wo.2 x List.mem_cons_self
  have wd : WsOk vs := wo.drop 1
  walk_at "rd"
  refine rd_ixaL e1 (v := .str x) (atI_at (n := 0) rfl rfl) ?_
  walk_at "rd"
  refine useX1 ⟨x, rfl, lx, ax, fun n hn H2 s2 => ?_, fun hn H2 s2 => no (by rw [eP, hn]; rfl) _ (s1.trans s2)⟩
  walk_at "rd"
  refine rd_slL (SqL.of (s2 _ _ e1)) fun p3 hp3 => ?_
  rw [show cutV ((x :: vs).map V.str) (some 1) none = vs.map V.str from words_drop (ws := x :: vs) (k := 1) (by simp)]
  have s3 := Same.new (o := .lst (vs.map V.str)) hp3
  have e3 : upd H2 p3 (.lst (vs.map V.str)) p3 = some (.lst (vs.map V.str)) := upd_same
  generalize upd H2 p3 (.lst (vs.map V.str)) = H3 at s3 e3
  have s13 := (s1.trans s2).trans s3
  refine ilK_of (SqL.of e3) ?_
  refine cw_list (xs := vs.map V.str) (big_le (by rw [List.length_map]; exact wd.1)) (fun j ys σ Hy => (∃ x1, σ = [x1]) ∧ Same H3 Hy ∧ ∃ qs, (vs.take j).mapM pairP = some qs ∧ Reps Hy (qs.map pairD) ys) ⟨⟨none, rfl⟩, Same.refl _, [], rfl, reps_nil⟩ (fun j ys σ Hy _ ⟨_, s4, _⟩ => SqL.of (s4 _ _ e3)) ?_ ?_
  · rintro j y ys σ Hy hx hle hlt ⟨⟨x1, rfl⟩, s4, qs, hqs, rq⟩
    rw [List.getElem?_map] at hx
    obtain ⟨wd', ew, rfl⟩ := Option.map_eq_some_iff.mp hx
    obtain ⟨aw, hw⟩ := wd.2 wd' (List.mem_of_getElem? ew)
    have nx := mapM_snoc (f := pairP) ew hqs
    walk_at "rd"
    refine useX1 ⟨wd', rfl, hw, aw, fun q hq v H5 rv s5 => ?_, fun hq H5 s5 => no (by rw [eP, hn, mapM_none (i := j + 1) (by rw [nx, hq]; rfl)]; rfl) _ ((s13.trans s4).trans s5)⟩
    refine ⟨hlt, by simpa using hle, ⟨_, rfl⟩, s4.trans s5, qs ++ [q], by rw [nx, hq]; rfl, ?_⟩
    rw [List.map_append]
    exact Reps.append (rq.mono s5.ts) (reps_cons rv reps_nil)
  rintro ys σ Hy _ ⟨⟨x1, rfl⟩, s4, qs, hqs, rq⟩ p5 hp5
  rw [List.length_map, List.take_length] at hqs
  have s5 := Same.new (o := .lst ys) hp5
  have e5 : upd Hy p5 (.lst ys) p5 = some (.lst ys) := upd_same
  generalize upd Hy p5 (.lst ys) = H5 at s5 e5
  walk_at "rd"
  refine rd_tupL (SqL.of e5) fun p6 hp6 => ?_
  have s6 := Same.new (o := .tup ys) hp6
  have e6 : upd H5 p6 (.tup ys) p6 = some (.tup ys) := upd_same
  generalize upd H5 p6 (.tup ys) = H6 at s6 e6
  walk_at "rd"
  walk_at "mk"; intro p7 hp7
  have s7 := Same.new (o := .tup [V.int n, V.ref p6]) hp7
  have s57 := (s5.trans s6).trans s7
  exact k (n, qs) (by rw [eP, hn, hqs]; rfl) (.ref p7) _ (rep_tup upd_same (reps_cons rep_int (reps_cons (rep_tup (s7 _ _ e6) (rq.mono s57.ts)) reps_nil))) ((s13.trans s4).trans s57)
noncomputable def sp_read_forms (C : Addr) : Sp := spX1 fun x H Q E => ∃ a ws, x = .ref a ∧ H a = some (.lst (ws.map V.str)) ∧ WsOk ws ∧ (∀ fs, formsP ws = some fs → ∀ v H', Rep H' (formsD fs) v → Same H H' → Q v H') ∧ (formsP ws = none → ∀ H', Same H H' → E (.ref C) none H')
theorem sc_read_forms : FnScope ["words"] ["words"] (defScope s_read_forms) := ⟨rfl, rfl, rfl, by decide +kernel, rfl, by decide +kernel, by decide +kernel⟩
theorem c_read_forms (B : Blt mg) (G : Glb K w mg) (HX : ExH K mg C_NoText C_LaneError C_NotFormed C_Faulty) (T_read_forms : TopFn K mg "read_forms" s_read_forms ["words"]) (Cread_form : CalleeX P w K mg base C_NoText "read_form" 4 ["word"] (sp_read_form C_NoText)) : CalleeX P w K mg base C_NoText "read_forms" 5 ["words"] (sp_read_forms C_NoText) := by
  refine T_read_forms.okX1 sc_read_forms fun f cdv A outer s H v1 Q E hr h => ?_
  have nd := sc_read_forms.nd
  obtain ⟨a, ws, rfl, ha, wo, k, no⟩ := h
  refine' go_bodyX [some (.ref a)] rfl ?hb ?hg
  case hb =>
   refine' pss_one ?zbb
   case zbb =>
    refine' ps_ret ?zbc
    case zbc =>
     refine' pe_callTy ?zbd ?zbe ?zbf ?zbg ?zbh
     case zbd => exact (k_tupOf (K := K) rfl)
     case zbe => exact (by rfl)
     case zbf => exact B.b_tuple
     case zbg => exact bt_tuple
     case zbh =>
      refine' pa_consM ?zbi ?zbj
      case zbi =>
       refine' pe_compX (LN := ["word"]) (FN := []) (fr := []) ?zbk ?zbl ?zbm ?zbn ?zbo ?zbp
       case zbk => exact rfl
       case zbl => exact (bk_of (by rfl))
       case zbm => exact (k_pi_list (K := K) rfl (pv 0))
       case zbn =>
        intro cl C fp pins s H
        exact (pg_name (i := 0) (show ((["word"] : List Str) ++ ([] : List Str)).Nodup by decide +kernel) rfl (Or.inl rfl))
       case zbo =>
        intro cl C fp pins s H
        exact pts_nil
       case zbp =>
        intro cl C fp pins s H hin
        exact (pe_fnXb hin Cread_form (hr.mono (by first | decide | omega)) (by rfl) (pa_consN (pv 0) pa_nil))
      case zbj => exact pa_nil
  walk_at "rd"
  refine ilK_of (SqL.of ha) ?_
  refine cw_list (xs := ws.map V.str) (big_le (by rw [List.length_map]; exact wo.1)) (fun j ys σ Hy => (∃ x1, σ = [x1]) ∧ Same H Hy ∧ ∃ qs, (ws.take j).mapM formP = some qs ∧ Reps Hy (qs.map fD) ys) ⟨⟨none, rfl⟩, Same.refl _, [], rfl, reps_nil⟩ (fun j ys σ Hy _ ⟨_, s4, _⟩ => SqL.of (s4 _ _ ha)) ?_ ?_
  · rintro j y ys σ Hy hx hle hlt ⟨⟨x1, rfl⟩, s4, qs, hqs, rq⟩
    rw [List.getElem?_map] at hx
    obtain ⟨wd', ew, rfl⟩ := Option.map_eq_some_iff.mp hx
    obtain ⟨aw, hw⟩ := wo.2 wd' (List.mem_of_getElem? ew)
    have nx := mapM_snoc (f := formP) ew hqs
    walk_at "rd"
    refine useX1 ⟨wd', rfl, hw, aw, fun q hq v H5 rv s5 => ?_, fun hq H5 s5 => no (mapM_none (i := j + 1) (by rw [nx, hq]; rfl)) _ (s4.trans s5)⟩
    refine ⟨hlt, by simpa using hle, ⟨_, rfl⟩, s4.trans s5, qs ++ [q], by rw [nx, hq]; rfl, ?_⟩
    rw [List.map_append]
    exact Reps.append (rq.mono s5.ts) (reps_cons rv reps_nil)
  rintro ys σ Hy _ ⟨⟨x1, rfl⟩, s4, qs, hqs, rq⟩ p5 hp5
  rw [List.length_map, List.take_length] at hqs
  have s5 := Same.new (o := .lst ys) hp5
  have e5 : upd Hy p5 (.lst ys) p5 = some (.lst ys) := upd_same
  generalize upd Hy p5 (.lst ys) = H5 at s5 e5
  walk_at "rd"
  refine rd_tupL (SqL.of e5) fun p6 hp6 => ?_
  have s6 := Same.new (o := .tup ys) hp6
  exact k qs hqs (.ref p6) _ (rep_tup upd_same (rq.mono (s5.trans s6).ts)) ((s4.trans s5).trans s6)
end

end
end My

end
section
set_option Elab.async false
set_option linter.all false
set_option maxRecDepth 100000
set_option maxHeartbeats 4000000

namespace My
open PySem L2

section
variable {P : Program} {w : World} {K : PySem.W.Frag} {mg : Str → Option Value} {base : Heap}
section
variable {C_NoText C_LaneError C_NotFormed C_Faulty : Addr}
noncomputable def sp_read_edge (C : Addr) : Sp := spX1 fun x H Q E => ∃ a ws, x = .ref a ∧ H a = some (.lst (ws.map V.str)) ∧ WsOk ws ∧ ws ≠ [] ∧ (∀ e, edgeP ws = some e → ∀ v H', Rep H' (edgeD e) v → Same H H' → Q v H') ∧ (edgeP ws = none → ∀ H', Same H H' → E (.ref C) none H')
theorem sc_read_edge : FnScope ["words", "numbers"] ["words"] (defScope s_read_edge) := ⟨rfl, rfl, rfl, by decide +kernel, rfl, by decide +kernel, by decide +kernel⟩
theorem c_read_edge (B : Blt mg) (G : Glb K w mg) (HX : ExH K mg C_NoText C_LaneError C_NotFormed C_Faulty) (T_read_edge : TopFn K mg "read_edge" s_read_edge ["words"]) (Cread_numbers : CalleeX P w K mg base C_NoText "read_numbers" 3 ["words", "many"] (sp_read_numbers C_NoText)) (Cread_forms : CalleeX P w K mg base C_NoText "read_forms" 5 ["words"] (sp_read_forms C_NoText)) : CalleeX P w K mg base C_NoText "read_edge" 6 ["words"] (sp_read_edge C_NoText) := by
  refine T_read_edge.okX1 sc_read_edge fun f cdv A outer s H v1 Q E hr h => ?_
  have nd := sc_read_edge.nd
  obtain ⟨a, ws, rfl, ha, wo, hne, k, no⟩ := h
  refine' go_bodyX [some (.ref a), none] rfl ?hb ?hg
  case hb =>
   refine' pss_cons ?zb ?zc
   case zb =>
    refine' ps_if ?zd ?ze ?zf
    case zd => exact (pt_cmpR op_ne (pe_ix (k_ix (K := K) rfl) (pv 0) pe_int (fun _ _ => rfl)) pe_str (nomark _))
    case ze => exact (pss_one (ps_raise (by rfl) HX.m_NoText HX.exc (pa_consK pe_str pa_nil)))
    case zf => exact pss_nil
   case zc =>
    refine' pss_cons ?zg ?zh
    case zg =>
     refine' ps_setC (i := 1) ?zi ?zj ?zk ?zl
     case zi => exact nd
     case zj => exact rfl
     case zk => exact (Or.inl rfl)
     case zl =>
      refine' pe_fnX ?zm ?zn ?zo ?zp
      case zm => exact Cread_numbers
      case zn => exact (hr.mono (by first | decide | omega))
      case zo => exact (by rfl)
      case zp => exact (pa_consS (pe_slice (k_sl (K := K) rfl) (pv 0) po_none (po_some pe_int)) (pa_consK pe_int pa_nil))
    case zh =>
     refine' pss_one ?zq
     case zq =>
      refine' ps_ret ?zr
      case zr =>
       refine' pe_tup ?zs
       case zs =>
        refine' pa_consS ?zt ?zu
        case zt => exact (pe_ix (k_ix (K := K) rfl) (pv 1) pe_int (fun _ _ => rfl))
        case zu =>
         refine' pa_consC ?zv ?zw
         case zv => exact (pe_fnX Cread_forms (hr.mono (by first | decide | omega)) (by rfl) (pa_consS (pe_slice (k_sl (K := K) rfl) (pv 0) (po_some pe_int) po_none) pa_nil))
         case zw => exact (pa_consS (pe_ix (k_ix (K := K) rfl) (pv 1) pe_int (fun _ _ => rfl)) pa_nil)
  obtain ⟨w0, wr, rfl⟩ : ∃ w0 wr, ws = w0 :: wr := by
    cases ws with
    | nil => exact absurd rfl hne
    | cons x r => exact ⟨x, r, rfl⟩
  walk_at "rd"
  refine rd_ixaL ha (v := .str w0) (atI_at (n := 0) rfl rfl) ?_
  walk_at "rd"
  refine ite_nd (fun h1 => ?_) (fun h1 => ?_)
  · walk_at "rd"
    refine ⟨by decide, no ?_ _ (Same.refl _)⟩
    unfold edgeP
    rw [if_neg]
    intro e
    exact h1 (Option.some.inj e)
  have eP : edgeP (w0 :: wr) = (both Prod.mk (numsP 2 ((w0 :: wr).take 3)) (formsP ((w0 :: wr).drop 3))).bind fun q => mkEdge q.1 q.2 := by
    unfold edgeP
    rw [if_pos (show (w0 :: wr).head? = some edgeW from congrArg some h1)]
  generalize w0 :: wr = ws at *
  walk_at "rd"
  refine rd_slL (SqL.of ha) fun p1 hp1 => ?_
  rw [show cutV (ws.map V.str) none (some 3) = (ws.take 3).map V.str by rw [show (3 : Int) = ((3 : Nat) : Int) from rfl, cut_toA, List.map_take]]
  have s1 := Same.new (o := .lst ((ws.take 3).map V.str)) hp1
  have e1 : upd H p1 (.lst ((ws.take 3).map V.str)) p1 = some (.lst ((ws.take 3).map V.str)) := upd_same
  generalize upd H p1 (.lst ((ws.take 3).map V.str)) = H1 at s1 e1
  walk_at "rd"
  refine useX2 ⟨p1, _, 2, rfl, rfl, e1, wo.take 3, fun ns hns p2 H2 e2 s2 => ?_, fun hn H2 s2 => no (by rw [eP, hn]; rfl) _ (s1.trans s2)⟩
  obtain ⟨n, m, rfl⟩ := nums_two hns
  walk_at "rd"
  refine rd_ixaL e2 (v := .int n) (atI_at (n := 0) rfl rfl) ?_
  walk_at "rd"
  refine rd_slL (SqL.of ((s1.trans s2) _ _ ha)) fun p3 hp3 => ?_
  rw [show cutV (ws.map V.str) (some 3) none = (ws.drop 3).map V.str by rw [show (3 : Int) = ((3 : Nat) : Int) from rfl, cut_fromA, List.map_drop]]
  have s3 := Same.new (o := .lst ((ws.drop 3).map V.str)) hp3
  have e3 : upd H2 p3 (.lst ((ws.drop 3).map V.str)) p3 = some (.lst ((ws.drop 3).map V.str)) := upd_same
  generalize upd H2 p3 (.lst ((ws.drop 3).map V.str)) = H3 at s3 e3
  have s13 := (s1.trans s2).trans s3
  walk_at "rd"
  refine useX1 ⟨p3, _, rfl, e3, wo.drop 3, fun fs hfs v H4 rv s4 => ?_, fun hn H4 s4 => no (by rw [eP, hns, hn]; rfl) _ (s13.trans s4)⟩
  walk_at "rd"
  refine rd_ixaL ((s3.trans s4) _ _ e2) (v := .int m) (atI_at (n := 1) rfl rfl) ?_
  walk_at "rd"
  walk_at "mk"; intro p5 hp5
  have s5 := Same.new (o := .tup [V.int n, v, V.int m]) hp5
  exact k (n, fs, m) (by rw [eP, hns, hfs]; rfl) (.ref p5) _ (rep_tup upd_same (reps_cons rep_int (reps_cons (rv.mono s5.ts) (reps_cons rep_int reps_nil)))) ((s13.trans s4).trans s5)
noncomputable def sp_read_frame (C : Addr) : Sp := spX1 fun x H Q E => ∃ a ws, x = .ref a ∧ H a = some (.lst (ws.map V.str)) ∧ WsOk ws ∧ ws ≠ [] ∧ (∀ e, frameP ws = some e → ∀ v H', Rep H' (frameD e) v → Same H H' → Q v H') ∧ (frameP ws = none → ∀ H', Same H H' → E (.ref C) none H')
theorem sc_read_frame : FnScope ["words", "numbers"] ["words"] (defScope s_read_frame) := ⟨rfl, rfl, rfl, by decide +kernel, rfl, by decide +kernel, by decide +kernel⟩
theorem c_read_frame (B : Blt mg) (G : Glb K w mg) (HX : ExH K mg C_NoText C_LaneError C_NotFormed C_Faulty) (T_read_frame : TopFn K mg "read_frame" s_read_frame ["words"]) (Cread_numbers : CalleeX P w K mg base C_NoText "read_numbers" 3 ["words", "many"] (sp_read_numbers C_NoText)) (Cread_forms : CalleeX P w K mg base C_NoText "read_forms" 5 ["words"] (sp_read_forms C_NoText)) : CalleeX P w K mg base C_NoText "read_frame" 6 ["words"] (sp_read_frame C_NoText) := by
  refine T_read_frame.okX1 sc_read_frame fun f cdv A outer s H v1 Q E hr h => ?_
  have nd := sc_read_frame.nd
  obtain ⟨a, ws, rfl, ha, wo, hne, k, no⟩ := h
  refine' go_bodyX [some (.ref a), none] rfl ?hb ?hg
  case hb =>
   refine' pss_cons ?zx ?zy
   case zx =>
    refine' ps_setC (i := 1) ?zz ?zba ?zbb ?zbc
    case zz => exact nd
    case zba => exact rfl
    case zbb => exact (Or.inl rfl)
    case zbc =>
     refine' pe_fnX ?zbd ?zbe ?zbf ?zbg
     case zbd => exact Cread_numbers
     case zbe => exact (hr.mono (by first | decide | omega))
     case zbf => exact (by rfl)
     case zbg => exact (pa_consS (pe_slice (k_sl (K := K) rfl) (pv 0) po_none (po_some pe_int)) (pa_consK pe_int pa_nil))
   case zy =>
    refine' pss_one ?zbh
    case zbh =>
     refine' ps_ret ?zbi
     case zbi =>
      refine' pe_tup ?zbj
      case zbj =>
       refine' pa_consS ?zbk ?zbl
       case zbk => exact (pe_ix (k_ix (K := K) rfl) (pv 1) pe_int (fun _ _ => rfl))
       case zbl =>
        refine' pa_consS ?zbm ?zbn
        case zbm => exact (pe_ix (k_ix (K := K) rfl) (pv 1) pe_int (fun _ _ => rfl))
        case zbn =>
         refine' pa_consC ?zbo ?zbp
         case zbo => exact (pe_fnX Cread_forms (hr.mono (by first | decide | omega)) (by rfl) (pa_consS (pe_slice (k_sl (K := K) rfl) (pv 0) (po_some pe_int) po_none) pa_nil))
         case zbp => exact pa_nil
  have eP : frameP ws = (both Prod.mk (numsP 2 (ws.take 3)) (formsP (ws.drop 3))).bind fun q => mkFrame q.1 q.2 := rfl
  walk_at "rd"
  refine rd_slL (SqL.of ha) fun p1 hp1 => ?_
  rw [show cutV (ws.map V.str) none (some 3) = (ws.take 3).map V.str by rw [show (3 : Int) = ((3 : Nat) : Int) from rfl, cut_toA, List.map_take]]
  have s1 := Same.new (o := .lst ((ws.take 3).map V.str)) hp1
  have e1 : upd H p1 (.lst ((ws.take 3).map V.str)) p1 = some (.lst ((ws.take 3).map V.str)) := upd_same
  generalize upd H p1 (.lst ((ws.take 3).map V.str)) = H1 at s1 e1
  walk_at "rd"
  refine useX2 ⟨p1, _, 2, rfl, rfl, e1, wo.take 3, fun ns hns p2 H2 e2 s2 => ?_, fun hn H2 s2 => no (by rw [eP, hn]; rfl) _ (s1.trans s2)⟩
  obtain ⟨n, m, rfl⟩ := nums_two hns
  walk_at "rd"
  refine rd_ixaL e2 (v := .int n) (atI_at (n := 0) rfl rfl) ?_
  walk_at "rd"
  refine rd_ixaL e2 (v := .int m) (atI_at (n := 1) rfl rfl) ?_
  walk_at "rd"
  refine rd_slL (SqL.of ((s1.trans s2) _ _ ha)) fun p3 hp3 => ?_
  rw [show cutV (ws.map V.str) (some 3) none = (ws.drop 3).map V.str by rw [show (3 : Int) = ((3 : Nat) : Int) from rfl, cut_fromA, List.map_drop]]
  have s3 := Same.new (o := .lst ((ws.drop 3).map V.str)) hp3
  have e3 : upd H2 p3 (.lst ((ws.drop 3).map V.str)) p3 = some (.lst ((ws.drop 3).map V.str)) := upd_same
  generalize upd H2 p3 (.lst ((ws.drop 3).map V.str)) = H3 at s3 e3
  have s13 := (s1.trans s2).trans s3
  walk_at "rd"
  refine useX1 ⟨p3, _, rfl, e3, wo.drop 3, fun fs hfs v H4 rv s4 => ?_, fun hn H4 s4 => no (by rw [eP, hns, hn]; rfl) _ (s13.trans s4)⟩
  walk_at "rd"
  walk_at "mk"; intro p5 hp5
  have s5 := Same.new (o := .tup [V.int n, V.int m, v]) hp5
  exact k (n, m, fs) (by rw [eP, hns, hfs]; rfl) (.ref p5) _ (rep_tup upd_same (reps_cons rep_int (reps_cons rep_int (reps_cons (rv.mono s5.ts) reps_nil)))) ((s13.trans s4).trans s5)
end

end
end My

end
section
set_option Elab.async false
set_option linter.all false
set_option maxRecDepth 100000
set_option maxHeartbeats 4000000

namespace My
open PySem L2

section
variable {P : Program} {w : World} {K : PySem.W.Frag} {mg : Str → Option Value} {base : Heap}
/-- a list of lists of words -/
noncomputable def LsAt (H : Hp) (lss : List (List Str)) (vs : List V) : Prop := lss.length = vs.length ∧ ∀ (i : Nat) ws v, lss[i]? = some ws → vs[i]? = some v → ∃ a, v = .ref a ∧ H a = some (.lst (ws.map V.str))
theorem LsAt.mono {H H' : Hp} {lss : List (List Str)} {vs : List V} (h : LsAt H lss vs) (s : Same H H') : LsAt H' lss vs := ⟨h.1, fun i ws v h1 h2 => by
  obtain ⟨a, e, ha⟩ := h.2 i ws v h1 h2
  exact ⟨a, e, s _ _ ha⟩⟩
theorem LsAt.get {H : Hp} {lss : List (List Str)} {vs : List V} {i : Nat} {v : V} (h : LsAt H lss vs) (hv : vs[i]? = some v) : ∃ ws a, lss[i]? = some ws ∧ v = .ref a ∧ H a = some (.lst (ws.map V.str)) := by
  have lt := (List.getElem?_eq_some_iff.mp hv).1
  have hw : lss[i]? = some (lss[i]'(by rw [h.1]; exact lt)) := List.getElem?_eq_getElem _
  obtain ⟨a, e, ha⟩ := h.2 i _ v hw hv
  exact ⟨_, a, hw, e, ha⟩
theorem LsAt.drop {H : Hp} {lss : List (List Str)} {vs : List V} (h : LsAt H lss vs) (k : Nat) : LsAt H (lss.drop k) (vs.drop k) := ⟨by rw [List.length_drop, List.length_drop, h.1], fun i ws v h1 h2 => by
  rw [List.getElem?_drop] at h1 h2
  exact h.2 _ ws v h1 h2⟩
theorem LsAt.take {H : Hp} {lss : List (List Str)} {vs : List V} (h : LsAt H lss vs) (k : Nat) : LsAt H (lss.take k) (vs.take k) := ⟨by rw [List.length_take, List.length_take, h.1], fun i ws v h1 h2 => by
  rw [List.getElem?_take] at h1 h2
  split at h1
  · next e => rw [if_pos e] at h2; exact h.2 _ ws v h1 h2
  · cases h1⟩
/-- lines of words -/
noncomputable def LsOk (lss : List (List Str)) : Prop := lss.length ≤ 1000000 ∧ ∀ l ∈ lss, WsOk l ∧ l ≠ []
theorem LsOk.drop {lss : List (List Str)} (h : LsOk lss) (k : Nat) : LsOk (lss.drop k) := ⟨by have := h.1; rw [List.length_drop]; omega, fun l hl => h.2 l (List.mem_of_mem_drop hl)⟩
theorem LsOk.take {lss : List (List Str)} (h : LsOk lss) (k : Nat) : LsOk (lss.take k) := ⟨by have := h.1; rw [List.length_take]; omega, fun l hl => h.2 l (List.mem_of_mem_take hl)⟩
theorem reps_ints {H : Hp} : ∀ (ns : List Int), Reps H (ns.map D.int) (ns.map V.int)
  | [] => reps_nil
  | n :: ns => reps_cons rep_int (reps_ints ns)
theorem nums_len {k : Nat} {ws : List Str} {ns : List Int} (h : numsP k ws = some ns) : ns.length = k := by
  unfold numsP at h
  split at h
  · next e =>
    have hl := (mapM_some h).1
    rw [List.length_drop, e] at hl
    omega
  · cases h
section
variable {C_NoText C_LaneError C_NotFormed C_Faulty : Addr}
noncomputable def sp_read_deed (C : Addr) : Sp := spX2 fun x y H Q E => ∃ a ws b lss vs, x = .ref a ∧ y = .ref b ∧ H a = some (.lst (ws.map V.str)) ∧ WsOk ws ∧ ws ≠ [] ∧ H b = some (.lst vs) ∧ LsAt H lss vs ∧ LsOk lss ∧ (∀ d, deedP ws lss = some d → ∀ v H', Rep H' (deedD d) v → Same H H' → Q v H') ∧ (deedP ws lss = none → ∀ H', Same H H' → E (.ref C) none H')
theorem sc_read_deed : FnScope ["words", "lines", "parts", "numbers"] ["words", "lines"] (defScope s_read_deed) := ⟨rfl, rfl, rfl, by decide +kernel, rfl, by decide +kernel, by decide +kernel⟩
theorem c_read_deed (B : Blt mg) (G : Glb K w mg) (HX : ExH K mg C_NoText C_LaneError C_NotFormed C_Faulty) (T_read_deed : TopFn K mg "read_deed" s_read_deed ["words", "lines"]) (Cread_numbers : CalleeX P w K mg base C_NoText "read_numbers" 3 ["words", "many"] (sp_read_numbers C_NoText)) (Cread_edge : CalleeX P w K mg base C_NoText "read_edge" 6 ["words"] (sp_read_edge C_NoText)) : CalleeX P w K mg base C_NoText "read_deed" 7 ["words", "lines"] (sp_read_deed C_NoText) := by
  refine T_read_deed.okX2 sc_read_deed fun f cdv A outer s H v1 v2 Q E hr h => ?_
  have nd := sc_read_deed.nd
  obtain ⟨a, ws, b, lss, vs, rfl, rfl, ha, wo, hne, hb, la, lo, k, no⟩ := h
  obtain ⟨w0, wr, rfl⟩ : ∃ w0 wr, ws = w0 :: wr := by
    cases ws with
    | nil => exact absurd rfl hne
    | cons x r => exact ⟨x, r, rfl⟩
  refine' go_bodyX [some (.ref a), some (.ref b), none, none] rfl ?hb ?hg
  case hb =>
   refine' pss_cons ?zb ?zc
   case zb =>
    refine' ps_if ?zd ?ze ?zf
    case zd =>
     refine' pt_cmpR ?zg ?zh ?zi ?zj
     case zg => exact (op_notCD (K := K) (w := w) (tb := deedT) rfl rfl)
     case zh => exact (pe_ix (k_ix (K := K) rfl) (pv 0) pe_int (fun _ _ => rfl))
     case zi => exact (pe_cdN (K := K) (w := w) (by rfl) G.c_DEED_PARTS)
     case zj => exact (by with_unfolding_all rfl)
    case ze => exact (pss_one (ps_raise (by rfl) HX.m_NoText HX.exc (pa_consK pe_str pa_nil)))
    case zf => exact pss_nil
   case zc =>
    refine' pss_cons ?zk ?zl
    case zk =>
     refine' ps_setS (i := 2) ?zm ?zn ?zo ?zp
     case zm => exact nd
     case zn => exact rfl
     case zo => exact (Or.inl rfl)
     case zp =>
      refine' pe_cdgetN (K := K) (w := w) (tb := deedT) ?zq ?zr ?zs ?zt ?zu
      case zq => exact rfl
      case zr => exact rfl
      case zs => exact (pe_cdN (K := K) (w := w) (by rfl) G.c_DEED_PARTS)
      case zt => exact (pe_ix (k_ix (K := K) rfl) (pv 0) pe_int (fun _ _ => rfl))
      case zu => exact (fun _ _ => rfl)
    case zl =>
     refine' pss_cons ?zv ?zw
     case zv =>
      refine' ps_setC (i := 3) ?zx ?zy ?zz ?zba
      case zx => exact nd
      case zy => exact rfl
      case zz => exact (Or.inl rfl)
      case zba =>
       refine' pe_fnX ?zbb ?zbc ?zbd ?zbe
       case zbb => exact Cread_numbers
       case zbc => exact (hr.mono (by first | decide | omega))
       case zbd => exact (by rfl)
       case zbe =>
        refine' pa_consN ?zbf ?zbg
        case zbf => exact (pv 0)
        case zbg =>
         refine' pa_consC ?zbh ?zbi
         case zbh => exact (k_bm (K := K) rfl PySem.F.plainAttrs_tuple PySem.F.slot_tuple_count PySem.F.type_tuple_count (k_count (K := K) rfl) (pv 2) (pa_consK pe_str pa_nil))
         case zbi => exact pa_nil
     case zw =>
      refine' pss_cons ?zbj ?zbk
      case zbj =>
       refine' ps_if ?zbl ?zbm ?zbn
       case zbl =>
        refine' pt_cmpR ?zbo ?zbp ?zbq ?zbr
        case zbo => exact op_ne
        case zbp => exact (pe_callB (k_len (K := K) rfl) (by rfl) B.b_len bt_len (pa_consN (pv 1) pa_nil))
        case zbq => exact (k_bm (K := K) rfl PySem.F.plainAttrs_tuple PySem.F.slot_tuple_count PySem.F.type_tuple_count (k_count (K := K) rfl) (pv 2) (pa_consK pe_str pa_nil))
        case zbr => exact (nomark _)
       case zbm => exact (pss_one (ps_raise (by rfl) HX.m_NoText HX.exc (pa_consK pe_str pa_nil)))
       case zbn => exact pss_nil
      case zbk =>
       refine' pss_one ?zbs
       case zbs =>
        refine' ps_ret ?zbt
        case zbt =>
         refine' pe_op ?zbu ?zbv ?zbw
         case zbu => exact (k_catW (K := K) rfl)
         case zbv =>
          refine' pe_op ?zbx ?zby ?zbz
          case zbx => exact (k_catW (K := K) rfl)
          case zby => exact (pe_tup (pa_consS (pe_ix (k_ix (K := K) rfl) (pv 0) pe_int (fun _ _ => rfl)) pa_nil))
          case zbz => exact (pe_callTy (k_tupOf (K := K) rfl) (by rfl) B.b_tuple bt_tuple (pa_consN (pv 3) pa_nil))
         case zbw =>
          refine' pe_callTy ?zca ?zcb ?zcc ?zcd ?zce
          case zca => exact (k_tupOf (K := K) rfl)
          case zcb => exact (by rfl)
          case zcc => exact B.b_tuple
          case zcd => exact bt_tuple
          case zce =>
           refine' pa_consM ?zcf ?zcg
           case zcf =>
            refine' pe_compX (LN := ["line"]) (FN := []) (fr := []) ?zch ?zci ?zcj ?zck ?zcl ?zcm
            case zch => exact rfl
            case zci => exact (bk_of (by rfl))
            case zcj => exact (k_pi_list (K := K) rfl (pv 1))
            case zck =>
             intro cl C fp pins s H
             exact (pg_name (i := 0) (show ((["line"] : List Str) ++ ([] : List Str)).Nodup by decide +kernel) rfl (Or.inl rfl))
            case zcl =>
             intro cl C fp pins s H
             exact pts_nil
            case zcm =>
             intro cl C fp pins s H hin
             exact (pe_fnXb hin Cread_edge (hr.mono (by first | decide | omega)) (by rfl) (pa_consN (pv 0) pa_nil))
           case zcg => exact pa_nil
  walk_at "rd"
  refine rd_ixaL ha (v := .str w0) (atI_at (n := 0) rfl rfl) ?_
  walk_at "rd"
  refine rd_cdN fun cd hcd => ?_
  refine rd_notCD hcd.cd ?_
  walk_at "rd"
  cases lk : deedT.lookup w0 with
  | none =>
    refine ite_yes rfl ?_
    walk_at "rd"
    exact ⟨by decide, no (by unfold deedP; dsimp only; rw [lk]) _ (Same.refl _)⟩
  | some ks =>
    refine ite_no rfl ?_
    have eP : deedP (w0 :: wr) lss = match numsP (ks.countP (· == numberW)) (w0 :: wr) with | none => none | some ns => if lss.length = ks.countP (· == edgeW) then (lss.mapM edgeP).map fun es => (w0, ns, es) else none := by unfold deedP; dsimp only; rw [lk]; try rfl
    have hks : ks.length ≤ 3 := by
      have hm : ∀ (l : List (Str × List Str)), l.lookup w0 = some ks → (∀ q ∈ l, q.2.length ≤ 3) → ks.length ≤ 3 := by
        intro l
        induction l with
        | nil => intro h; cases h
        | cons q l ih =>
          obtain ⟨x, y⟩ := q
          intro h hq
          rw [List.lookup_cons] at h
          split at h
          · cases h; exact hq _ List.mem_cons_self
          · exact ih h fun q hq' => hq q (List.mem_cons_of_mem _ hq')
      exact hm _ lk (by decide)
    have hc3 : ks.countP (· == numberW) ≤ 3 := Nat.le_trans List.countP_le_length hks
    walk_at "rd"
    refine rd_cdN fun cd2 hcd2 => ?_
    walk_at "rd"
    refine rd_ixaL ha (v := .str w0) (atI_at (n := 0) rfl rfl) ?_
    walk_at "rd"
    refine cdNK_of hcd2 lk fun tb htb => ?_
    walk_at "rd"
    refine ⟨.inr (.inl ⟨rfl, htb.2⟩), ?_⟩
    walk_at "rd"
    refine rd_count (htb.1.sq _) ?_
    walk_at "rd"
    refine useX2 ⟨a, _, _, rfl, rfl, ha, wo, fun ns hns p2 H2 e2 s2 => ?_, fun hn H2 s2 => no (by rw [eP, show numsP (ks.countP (· == numberW)) (w0 :: wr) = none from hn]) _ s2⟩
    have hns : numsP (ks.countP (· == numberW)) (w0 :: wr) = some ns := hns
    have hnl := nums_len hns
    have eP : deedP (w0 :: wr) lss = if lss.length = ks.countP (· == edgeW) then (lss.mapM edgeP).map fun es => (w0, ns, es) else none := by rw [eP, hns]
    walk_at "rd"
    refine rd_lenL' (SqL.of (s2 _ _ hb)) ?_
    walk_at "rd"
    refine ⟨.inr (.inl ⟨rfl, htb.2⟩), ?_⟩
    walk_at "rd"
    refine rd_count (htb.1.sq _) ?_
    walk_at "rd"
    rw [← la.1]
    refine ite_nd (fun h1 => ?_) (fun h1 => ?_)
    · walk_at "rd"
      refine ⟨by decide, no ?_ _ s2⟩
      rw [eP, if_neg]
      intro e
      exact h1 (by rw [e]; rfl)
    have h1 : lss.length = ks.countP (· == edgeW) := Int.ofNat.inj h1
    rw [if_pos h1] at eP
    walk_at "rd"
    refine rd_ixaL (s2 _ _ ha) (v := .str w0) (atI_at (n := 0) rfl rfl) ?_
    walk_at "rd"
    walk_at "mk"; intro p3 hp3
    have s3 := Same.new (o := .tup [V.str w0]) hp3
    have e3 : upd H2 p3 (.tup [V.str w0]) p3 = some (.tup [V.str w0]) := upd_same
    generalize upd H2 p3 (.tup [V.str w0]) = H3 at s3 e3
    walk_at "rd"
    refine rd_tupL (SqL.of (s3 _ _ e2)) fun p4 hp4 => ?_
    have s4 := Same.new (o := .tup (ns.map V.int)) hp4
    have e4 : upd H3 p4 (.tup (ns.map V.int)) p4 = some (.tup (ns.map V.int)) := upd_same
    generalize upd H3 p4 (.tup (ns.map V.int)) = H4 at s4 e4
    refine rd_catW (s4 _ _ e3) e4 (by rw [List.length_map]; simp only [List.length_cons, List.length_nil]; omega) fun p5 H5 hp5 s5 => ?_
    walk_at "rd"
    have s25 := ((s2.trans s3).trans s4).trans s5
    refine ilK_of (SqL.of (s25 _ _ hb)) ?_
    have hl3 : vs.length ≤ 3 := by
      rw [← la.1, h1]
      exact Nat.le_trans List.countP_le_length hks
    refine cw_list (xs := vs) (big_le (by omega)) (fun j ys σ Hy => (∃ x1, σ = [x1]) ∧ Same H5 Hy ∧ ∃ qs, (lss.take j).mapM edgeP = some qs ∧ Reps Hy (qs.map edgeD) ys) ⟨⟨none, rfl⟩, Same.refl _, [], rfl, reps_nil⟩ (fun j ys σ Hy _ ⟨_, s6, _⟩ => SqL.of ((s25.trans s6) _ _ hb)) ?_ ?_
    · rintro j y ys σ Hy hx hle hlt ⟨⟨x1, rfl⟩, s6, qs, hqs, rq⟩
      obtain ⟨wl, al, ew, rfl, hal⟩ := la.get hx
      obtain ⟨wk, wn⟩ := lo.2 wl (List.mem_of_getElem? ew)
      have nx := mapM_snoc (f := edgeP) ew hqs
      walk_at "rd"
      refine useX1 ⟨al, wl, rfl, (s25.trans s6) _ _ hal, wk, wn, fun q hq v H7 rv s7 => ?_, fun hq H7 s7 => no (by rw [eP, mapM_none (i := j + 1) (by rw [nx, hq]; rfl)]; rfl) _ ((s25.trans s6).trans s7)⟩
      refine ⟨hlt, by simpa using hle, ⟨_, rfl⟩, s6.trans s7, qs ++ [q], by rw [nx, hq]; rfl, ?_⟩
      rw [List.map_append]
      exact Reps.append (rq.mono s7.ts) (reps_cons rv reps_nil)
    rintro ys σ Hy hyy ⟨⟨x1, rfl⟩, s6, qs, hqs, rq⟩ p7 hp7
    rw [← la.1, List.take_length] at hqs
    have hyl := rq.length
    rw [List.length_map] at hyl
    have hql := (mapM_some hqs).1
    have s7 := Same.new (o := .lst ys) hp7
    have e7 : upd Hy p7 (.lst ys) p7 = some (.lst ys) := upd_same
    generalize upd Hy p7 (.lst ys) = H7 at s7 e7
    walk_at "rd"
    refine rd_tupL (SqL.of e7) fun p8 hp8 => ?_
    have s8 := Same.new (o := .tup ys) hp8
    have e8 : upd H7 p8 (.tup ys) p8 = some (.tup ys) := upd_same
    generalize upd H7 p8 (.tup ys) = H8 at s8 e8
    have s58 := (s6.trans s7).trans s8
    have h13 := la.1
    refine rd_catW (s58 _ _ hp5) e8 (by simp only [List.length_append, List.length_map, List.length_cons, List.length_nil]; omega) fun p9 H9 hp9 s9 => ?_
    refine k (w0, ns, qs) (by rw [eP, hqs]; rfl) (.ref p9) H9 ?_ ((s25.trans s58).trans s9)
    refine rep_tup hp9 ?_
    show Reps H9 (D.str w0 :: (ns.map D.int ++ qs.map edgeD)) (V.str w0 :: (ns.map V.int ++ ys))
    exact reps_cons (by rw [Rep]) (Reps.append (reps_ints ns) (rq.mono ((s7.trans s8).trans s9).ts))
end

end
end My

end
section
set_option Elab.async false
set_option linter.all false
set_option maxRecDepth 100000
set_option maxHeartbeats 4000000

namespace My
open PySem L2

section
variable {P : Program} {w : World} {K : PySem.W.Frag} {mg : Str → Option Value} {base : Heap}
/-- a stand in the heap -/
noncomputable def StandAt (H : Hp) (st : StandI) (v : V) : Prop := ∃ t l ys vd, v = .ref t ∧ H t = some (.tup [.int st.1, .ref l, vd]) ∧ H l = some (.lst ys) ∧ Reps H (st.2.1.map frameD) ys ∧ Rep H (deedD st.2.2) vd
theorem StandAt.mono {H H' : Hp} {st : StandI} {v : V} (h : StandAt H st v) (s : Same H H') : StandAt H' st v := by
  obtain ⟨t, l, ys, vd, e, h1, h2, h3, h4⟩ := h
  exact ⟨t, l, ys, vd, e, s _ _ h1, s _ _ h2, h3.mono s.ts, h4.mono s.ts⟩
theorem nums_one {ws : List Str} {ns : List Int} (h : numsP 1 ws = some ns) : ∃ a, ns = [a] := by
  have := nums_len h
  rcases ns with _ | ⟨a, _ | ⟨b, r⟩⟩
  · cases this
  · exact ⟨a, rfl⟩
  · simp at this
theorem tw_cut {α : Type} {p : α → Bool} {l : List α} {j : Nat} (h1 : ∀ i x, i < j → l[i]? = some x → p x = true) (h2 : ∀ x, l[j]? = some x → p x = false) (hj : j ≤ l.length) : l.takeWhile p = l.take j ∧ l.dropWhile p = l.drop j := by
  induction l generalizing j with
  | nil => simp at hj; subst hj; exact ⟨rfl, rfl⟩
  | cons a l ih =>
    cases j with
    | zero =>
      have := h2 a rfl
      exact ⟨by rw [List.takeWhile_cons, this]; rfl, by rw [List.dropWhile_cons, this]; rfl⟩
    | succ j =>
      have ha := h1 0 a (by omega) rfl
      obtain ⟨e1, e2⟩ := ih (j := j) (fun i x hi hx => h1 (i + 1) x (by omega) hx) (fun x hx => h2 x hx) (by simp at hj; omega)
      exact ⟨by rw [List.takeWhile_cons, ha]; simp [e1], by rw [List.dropWhile_cons, ha]; simp [e2]⟩
theorem rd_meetS {t t2 : TS} {D' : Ends} {σ : St} {H : Hp} (I : St → Hp → Prop) (hI : ∀ σ' H', I σ' H' → t2 D' σ' H') (h : ∀ N : St → Hp → Prop, (∀ σ' H', I σ' H' → N σ' H') → t { D' with nx := N } σ H) : tSeq t t2 D' σ H := h _ hI
section
variable {C_NoText C_LaneError C_NotFormed C_Faulty : Addr}
noncomputable def sp_read_stand (C : Addr) : Sp := spX1 fun x H Q E => ∃ a gr vs, x = .ref a ∧ H a = some (.lst vs) ∧ LsAt H gr vs ∧ LsOk gr ∧ gr ≠ [] ∧ (∀ st, standP gr = some st → ∀ v H', StandAt H' st v → Same H H' → Q v H') ∧ (standP gr = none → ∀ H', Same H H' → E (.ref C) none H')
theorem sc_read_stand : FnScope ["group", "many", "frames", "paper"] ["group"] (defScope s_read_stand) := ⟨rfl, rfl, rfl, by decide +kernel, rfl, by decide +kernel, by decide +kernel⟩
theorem c_read_stand (B : Blt mg) (G : Glb K w mg) (HX : ExH K mg C_NoText C_LaneError C_NotFormed C_Faulty) (T_read_stand : TopFn K mg "read_stand" s_read_stand ["group"]) (Cread_numbers : CalleeX P w K mg base C_NoText "read_numbers" 3 ["words", "many"] (sp_read_numbers C_NoText)) (Cread_frame : CalleeX P w K mg base C_NoText "read_frame" 6 ["words"] (sp_read_frame C_NoText)) (Cread_deed : CalleeX P w K mg base C_NoText "read_deed" 7 ["words", "lines"] (sp_read_deed C_NoText)) : CalleeX P w K mg base C_NoText "read_stand" 8 ["group"] (sp_read_stand C_NoText) := by
  refine T_read_stand.okX1 sc_read_stand fun f cdv A outer s H v1 Q E hr h => ?_
  have nd := sc_read_stand.nd
  obtain ⟨a, gr, vs, rfl, ha, la, lo, hne, k, no⟩ := h
  obtain ⟨g0, rest, rfl⟩ : ∃ g0 rest, gr = g0 :: rest := by
    cases gr with
    | nil => exact absurd rfl hne
    | cons x r => exact ⟨x, r, rfl⟩
  have hvl := la.1
  have h1m := lo.1
  obtain ⟨v0, vr, rfl⟩ : ∃ v0 vr, vs = v0 :: vr := by
    cases vs with
    | nil => cases hvl
    | cons x r => exact ⟨x, r, rfl⟩
  obtain ⟨a0, rfl, ha0⟩ := la.2 0 g0 v0 rfl rfl
  obtain ⟨wk0, _⟩ := lo.2 g0 List.mem_cons_self
  have lar : LsAt H rest vr := la.drop 1
  have lor : LsOk rest := lo.drop 1
  have hrl := lar.1
  refine' go_bodyX [some (.ref a), none, none, none] rfl ?hb ?hg
  case hb =>
   refine' pss_cons ?zb ?zc
   case zb =>
    refine' ps_setS (i := 1) ?zd ?ze ?zf ?zg
    case zd => exact nd
    case ze => exact rfl
    case zf => exact (Or.inl rfl)
    case zg =>
     refine' pe_ix ?zh ?zi ?zj ?zk
     case zh => exact (k_ix (K := K) rfl)
     case zi =>
      refine' pe_fnX ?zl ?zm ?zn ?zo
      case zl => exact Cread_numbers
      case zm => exact (hr.mono (by first | decide | omega))
      case zn => exact (by rfl)
      case zo => exact (pa_consS (pe_ix (k_ix (K := K) rfl) (pv 0) pe_int (fun _ _ => rfl)) (pa_consK pe_int pa_nil))
     case zj => exact pe_int
     case zk => exact (fun _ _ => rfl)
   case zc =>
    refine' pss_cons ?zp ?zq
    case zp => exact (ps_set (i := 2) nd rfl (Or.inl rfl) pe_int)
    case zq =>
     refine' pss_cons ?zr ?zs
     case zr =>
      refine' ps_while ?zt ?zu ?zv
      case zt => exact PassesOwn.leaving
      case zu =>
       refine' PW.pt ?zw
       case zw =>
        refine' pw_and ?zx ?zy
        case zx => exact (pt_cmpR op_lt (pv 2) (pe_callB (k_len (K := K) rfl) (by rfl) B.b_len bt_len (pa_consN (pv 0) pa_nil)) (nomark _))
        case zy =>
         refine' pw_and1 ?zz
         case zz => exact (pt_cmpR op_eq (pe_ix (k_ix (K := K) rfl) (pe_ix (k_ix (K := K) rfl) (pv 0) (pv 2) (fun _ _ => rfl)) pe_int (fun _ _ => rfl)) pe_str (nomark _))
      case zv => exact (pss_one (ps_setB (i := 2) nd rfl (Or.inl rfl) (pe_op op_add (pv 2) pe_int)))
     case zs =>
      refine' pss_cons ?zba ?zbb
      case zba =>
       refine' ps_if ?zbc ?zbd ?zbe
       case zbc => exact (pt_cmpR op_eq (pv 2) (pe_callB (k_len (K := K) rfl) (by rfl) B.b_len bt_len (pa_consN (pv 0) pa_nil)) (nomark _))
       case zbd => exact (pss_one (ps_raise (by rfl) HX.m_NoText HX.exc (pa_consK pe_str pa_nil)))
       case zbe => exact pss_nil
      case zbb =>
       refine' pss_cons ?zbf ?zbg
       case zbf =>
        refine' ps_setcX (i := 3) (LN := ["words"]) (FN := []) (fr := []) ?zbh ?zbi ?zbj ?zbk ?zbl ?zbm ?zbn ?zbo ?zbp
        case zbh => exact rfl
        case zbi => exact nd
        case zbj => exact rfl
        case zbk => exact rfl
        case zbl => exact (bk_of (by rfl))
        case zbm => exact (k_pi_list (K := K) rfl (pe_slice (k_sl (K := K) rfl) (pv 0) (po_some pe_int) (po_some (pv 2))))
        case zbn =>
         intro cl C fp pins s H
         exact (pg_name (i := 0) (show ((["words"] : List Str) ++ ([] : List Str)).Nodup by decide +kernel) rfl (Or.inl rfl))
        case zbo =>
         intro cl C fp pins s H
         exact pts_nil
        case zbp =>
         intro cl C fp pins s H hin
         exact (pe_fnXb hin Cread_frame (hr.mono (by first | decide | omega)) (by rfl) (pa_consN (pv 0) pa_nil))
       case zbg =>
        refine' pss_one ?zbq
        case zbq =>
         refine' ps_ret ?zbr
         case zbr =>
          refine' pe_tup ?zbs
          case zbs =>
           refine' pa_consN ?zbt ?zbu
           case zbt => exact (pv 1)
           case zbu =>
            refine' pa_consN ?zbv ?zbw
            case zbv => exact (pv 3)
            case zbw =>
             refine' pa_consC ?zbx ?zby
             case zbx =>
              refine' pe_fnX ?zbz ?zca ?zcb ?zcc
              case zbz => exact Cread_deed
              case zca => exact (hr.mono (by first | decide | omega))
              case zcb => exact (by rfl)
              case zcc =>
               refine' pa_consS ?zcd ?zce
               case zcd => exact (pe_ix (k_ix (K := K) rfl) (pv 0) (pv 2) (fun _ _ => rfl))
               case zce => exact (pa_consS (pe_slice (k_sl (K := K) rfl) (pv 0) (po_some (pe_op op_add (pv 2) pe_int)) po_none) pa_nil)
             case zby => exact pa_nil
  walk_at "rd"
  refine rd_ixaL ha (v := .ref a0) (atI_at (n := 0) rfl rfl) ?_
  walk_at "rd"
  refine useX2 ⟨a0, g0, 1, rfl, rfl, ha0, wk0, fun ns hns p1 H1 e1 s1 => ?_, fun hn H1 s1 => no (by unfold standP; dsimp only; rw [hn]) _ s1⟩
  obtain ⟨n, rfl⟩ := nums_one hns
  have eP : standP (g0 :: rest) = standQ n (rest.takeWhile isFrame) (rest.dropWhile isFrame) := by
    unfold standP
    dsimp only
    rw [hns]
    rfl
  walk_at "rd"
  refine rd_ixaL e1 (v := .int n) (atI_at (n := 0) rfl rfl) ?_
  refine rd_gname ?_
  dsimp only
  refine rd_seq ?_
  refine rd_asg ?_
  refine rd_c ?_
  refine rd_gname ?_
  dsimp only
  have stop : ∀ j : Nat, j ≤ rest.length → (∀ i x, i < j → rest[i]? = some x → isFrame x = true) → (∀ x, rest[j]? = some x → isFrame x = false) → standP (g0 :: rest) = standQ n (rest.take j) (rest.drop j) := fun j hj hall h2 => by
    obtain ⟨q1, q2⟩ := tw_cut hall h2 hj
    rw [eP, q1, q2]
  refine rd_meetS (fun σ' H' => ∃ j : Nat, H' = H1 ∧ j ≤ rest.length ∧ σ' = [some (.ref a), some (.int n), some (.int ((j + 1 : Nat) : Int)), none] ∧ standP (g0 :: rest) = standQ n (rest.take j) (rest.drop j)) ?_ fun N hN => ?_
  rotate_left
  · refine ⟨fun m σ Hx => ∃ j : Nat, j + m = rest.length + 1 ∧ Hx = H1 ∧ j ≤ rest.length ∧ σ = [some (.ref a), some (.int n), some (.int ((j + 1 : Nat) : Int)), none] ∧ ∀ i x, i < j → rest[i]? = some x → isFrame x = true, ⟨rest.length + 1, 0, by omega, rfl, by omega, rfl, fun i x hi => by omega⟩, ?_⟩
    rintro m σ Hx ⟨j, hjm, rfl, hj, rfl, hall⟩
    walk_at "rd"
    refine rd_lenL' (SqL.of (s1 _ _ ha)) ?_
    walk_at "rd"
    refine ite_dd (fun h1 => ?_) (fun h1 => ?_)
    · have hjl : j < rest.length := by
        simp only [List.length_cons] at h1
        omega
      have hjv : j < vr.length := by omega
      have ev : vr[j]? = some vr[j] := List.getElem?_eq_getElem hjv
      obtain ⟨wl, al, ew, evl, hal⟩ := lar.get ev
      obtain ⟨wk, wn⟩ := lor.2 wl (List.mem_of_getElem? ew)
      rw [evl] at ev
      obtain ⟨w0, wr, rfl⟩ : ∃ w0 wr, wl = w0 :: wr := by
        cases wl with
        | nil => exact absurd rfl wn
        | cons x r => exact ⟨x, r, rfl⟩
      walk_at "rd"
      refine rd_ixaL (s1 _ _ ha) (v := .ref al) (atI_at (n := j + 1) rfl (by rw [List.getElem?_cons_succ]; exact ev)) ?_
      walk_at "rd"
      refine rd_ixaL (s1 _ _ hal) (v := .str w0) (atI_at (n := 0) rfl rfl) ?_
      walk_at "rd"
      by_cases hw : w0 = frameW
      · rw [decide_eq_true (show w0 = Str.ofString "frame" from hw), if_pos rfl]
        refine ⟨fun σ' H' => ∃ m', m' < m ∧ ∃ j : Nat, j + m' = rest.length + 1 ∧ H' = Hx ∧ j ≤ rest.length ∧ σ' = [some (.ref a), some (.int n), some (.int ((j + 1 : Nat) : Int)), none] ∧ ∀ i x, i < j → rest[i]? = some x → isFrame x = true, fun σ' H' h => h, ?_⟩
        walk_at "rd"
        refine ⟨m - 1, by omega, j + 1, by omega, rfl, by omega, by simp, fun i x hi hx => ?_⟩
        by_cases e : i = j
        · subst e
          rw [ew] at hx
          cases hx
          unfold isFrame
          rw [hw]
          rfl
        · exact hall i x (by omega) hx
      · rw [decide_eq_false (show ¬ w0 = Str.ofString "frame" from hw), if_neg (by decide)]
        refine hN _ _ ⟨j, rfl, hj, rfl, stop j hj hall fun x hx => ?_⟩
        rw [ew] at hx
        cases hx
        unfold isFrame
        rw [List.head?_cons]
        simp [hw]
    · have hjl : j = rest.length := by
        simp only [List.length_cons] at h1
        omega
      subst hjl
      exact hN _ _ ⟨rest.length, rfl, hj, rfl, stop _ hj hall fun x hx => by rw [List.getElem?_eq_none (Nat.le_refl _)] at hx; cases hx⟩
  rintro σ Hx ⟨j, rfl, hj, rfl, eQ⟩
  clear stop eP
  walk_at "rd"
  refine rd_lenL' (SqL.of (s1 _ _ ha)) ?_
  walk_at "rd"
  refine ite_dd (fun h1 => ?_) (fun h1 => ?_)
  · walk_at "rd"
    refine ⟨by decide, no ?_ _ s1⟩
    have hjl : rest.length ≤ j := by
      simp only [List.length_cons] at h1
      omega
    rw [eQ, List.drop_eq_nil_of_le hjl]
    rfl
  have hjl : j < rest.length := by
    simp only [List.length_cons] at h1
    omega
  have hjv : j < vr.length := by omega
  have ev : vr[j]? = some vr[j] := List.getElem?_eq_getElem hjv
  obtain ⟨dw, al, ew, evl, hal⟩ := lar.get ev
  obtain ⟨wk, wn⟩ := lor.2 dw (List.mem_of_getElem? ew)
  rw [evl] at ev
  have ed : rest.drop j = dw :: rest.drop (j + 1) := by
    rw [List.drop_eq_getElem_cons hjl]
    congr 1
    rw [List.getElem?_eq_getElem hjl] at ew
    exact Option.some.inj ew
  rw [ed] at eQ
  have eQ : standP (g0 :: rest) = both (fun ps d => (n, ps, d)) ((rest.take j).mapM frameP) (deedP dw (rest.drop (j + 1))) := eQ
  walk_at "rd"
  refine rd_slL (SqL.of (s1 _ _ ha)) fun p3 hp3 => ?_
  rw [show cutV (V.ref a0 :: vr) (some 1) (some ((j + 1 : Nat) : Int)) = vr.take j by
    rw [show (1 : Int) = ((1 : Nat) : Int) from rfl, cut_mid (by simp) (by omega)]
    rfl]
  have s3 := Same.new (o := .lst (vr.take j)) hp3
  have e3 : upd Hx p3 (.lst (vr.take j)) p3 = some (.lst (vr.take j)) := upd_same
  generalize upd Hx p3 (.lst (vr.take j)) = H3 at s3 e3
  have s13 := s1.trans s3
  have lat := (lar.take j).mono s13
  have lot := lor.take j
  have htl := lat.1
  generalize rest.take j = fr at eQ lat lot htl
  generalize vr.take j = vf at e3 lat htl
  refine ilK_of (SqL.of e3) ?_
  refine cw_list (xs := vf) (big_le (by have := lot.1; omega)) (fun i ys σ Hy => (∃ x1, σ = [x1]) ∧ Same H3 Hy ∧ ∃ qs, (fr.take i).mapM frameP = some qs ∧ Reps Hy (qs.map frameD) ys) ⟨⟨none, rfl⟩, Same.refl _, [], rfl, reps_nil⟩ (fun i ys σ Hy _ ⟨_, s6, _⟩ => SqL.of (s6 _ _ e3)) ?_ ?_
  · rintro i y ys σ Hy hx hle hlt ⟨⟨x1, rfl⟩, s6, qs, hqs, rq⟩
    obtain ⟨wl, al2, ew2, rfl, hal2⟩ := lat.get hx
    obtain ⟨wk2, wn2⟩ := lot.2 wl (List.mem_of_getElem? ew2)
    have nx := mapM_snoc (f := frameP) ew2 hqs
    walk_at "rd"
    refine useX1 ⟨al2, wl, rfl, s6 _ _ hal2, wk2, wn2, fun q hq v H7 rv s7 => ?_, fun hq H7 s7 => no (by rw [eQ, mapM_none (i := i + 1) (by rw [nx, hq]; rfl)]; rfl) _ ((s13.trans s6).trans s7)⟩
    refine ⟨hlt, by simpa using hle, ⟨_, rfl⟩, s6.trans s7, qs ++ [q], by rw [nx, hq]; rfl, ?_⟩
    rw [List.map_append]
    exact Reps.append (rq.mono s7.ts) (reps_cons rv reps_nil)
  rintro ys σ Hy hyy ⟨⟨x1, rfl⟩, s6, qs, hqs, rq⟩ p7 hp7
  rw [← htl, List.take_length] at hqs
  have s7 := Same.new (o := .lst ys) hp7
  have e7 : upd Hy p7 (.lst ys) p7 = some (.lst ys) := upd_same
  generalize upd Hy p7 (.lst ys) = H7 at s7 e7
  have s17 := (s13.trans s6).trans s7
  walk_at "rd"
  refine rd_ixaL (s17 _ _ ha) (v := .ref al) (atI_at (n := j + 1) rfl (by rw [List.getElem?_cons_succ]; exact ev)) ?_
  walk_at "rd"
  refine rd_slL (SqL.of (s17 _ _ ha)) fun p8 hp8 => ?_
  rw [show cutV (V.ref a0 :: vr) (some (((j + 1 : Nat) : Int) + 1)) none = vr.drop (j + 1) by
    rw [show (((j + 1 : Nat) : Int) + 1) = ((j + 2 : Nat) : Int) by omega, cut_fromA]
    rfl]
  have s8 := Same.new (o := .lst (vr.drop (j + 1))) hp8
  have e8 : upd H7 p8 (.lst (vr.drop (j + 1))) p8 = some (.lst (vr.drop (j + 1))) := upd_same
  generalize upd H7 p8 (.lst (vr.drop (j + 1))) = H8 at s8 e8
  have s18 := s17.trans s8
  walk_at "rd"
  refine useX2 ⟨al, dw, p8, rest.drop (j + 1), vr.drop (j + 1), rfl, rfl, s18 _ _ hal, wk, wn, e8, (lar.drop (j + 1)).mono s18, lor.drop (j + 1), fun d hd v H9 rv s9 => ?_, fun hd H9 s9 => no (by rw [eQ, hqs, hd]; rfl) _ (s18.trans s9)⟩
  walk_at "rd"
  walk_at "mk"; intro p10 hp10
  have s10 := Same.new (o := .tup [V.int n, V.ref p7, v]) hp10
  have s810 := s8.trans (s9.trans s10)
  exact k (n, qs, d) (by rw [eQ, hqs, hd]; rfl) (.ref p10) _ ⟨p10, p7, ys, v, rfl, upd_same, s810 _ _ e7, rq.mono (s7.trans s810).ts, rv.mono s10.ts⟩ (s18.trans (s9.trans s10))
end

end
end My

end
section
set_option Elab.async false
set_option linter.all false
set_option maxRecDepth 100000
set_option maxHeartbeats 4000000

namespace My
open PySem L2

section
variable {P : Program} {w : World} {K : PySem.W.Frag} {mg : Str → Option Value} {base : Heap}
/-! ### groups of lines, being made -/
noncomputable def LsAv (H : Hp) (av : List Addr) (lss : List (List Str)) (vs : List V) : Prop := lss.length = vs.length ∧ ∀ (i : Nat) ws v, lss[i]? = some ws → vs[i]? = some v → ∃ a, v = .ref a ∧ a ∉ av ∧ H a = some (.lst (ws.map V.str))
theorem LsAv.at {H : Hp} {av : List Addr} {lss : List (List Str)} {vs : List V} (h : LsAv H av lss vs) : LsAt H lss vs := ⟨h.1, fun i ws v h1 h2 => by
  obtain ⟨a, e, _, ha⟩ := h.2 i ws v h1 h2
  exact ⟨a, e, ha⟩⟩
theorem LsAv.by {H H' : Hp} {av av' : List Addr} {lss : List (List Str)} {vs : List V} (h : LsAv H av lss vs) (k : ∀ a xs, a ∉ av → H a = some (.lst xs) → a ∉ av' ∧ H' a = some (.lst xs)) : LsAv H' av' lss vs := ⟨h.1, fun i ws v h1 h2 => by
  obtain ⟨a, e, n, ha⟩ := h.2 i ws v h1 h2
  obtain ⟨n', ha'⟩ := k a _ n ha
  exact ⟨a, e, n', ha'⟩⟩
theorem snoc_get {α : Type} {l : List α} {x y : α} {i : Nat} (h : (l ++ [x])[i]? = some y) : (i < l.length ∧ l[i]? = some y) ∨ (i = l.length ∧ y = x) := by
  have lt := (List.getElem?_eq_some_iff.mp h).1
  rw [List.length_append, List.length_cons, List.length_nil] at lt
  by_cases q : i < l.length
  · rw [List.getElem?_append_left q] at h
    exact .inl ⟨q, h⟩
  · have : i = l.length := by omega
    subst this
    rw [List.getElem?_append_right (Nat.le_refl _), Nat.sub_self] at h
    cases h
    exact .inr ⟨rfl, rfl⟩
theorem LsAv.snoc {H : Hp} {av : List Addr} {lss : List (List Str)} {vs : List V} {ws : List Str} {a : Addr} (h : LsAv H av lss vs) (n : a ∉ av) (ha : H a = some (.lst (ws.map V.str))) : LsAv H av (lss ++ [ws]) (vs ++ [.ref a]) := ⟨by simp [h.1], fun i ws' v h1 h2 => by
  have hl := h.1
  rcases snoc_get h1 with ⟨q1, e1⟩ | ⟨q1, e1⟩
  · rcases snoc_get h2 with ⟨q2, e2⟩ | ⟨q2, e2⟩
    · exact h.2 i ws' v e1 e2
    · omega
  · rcases snoc_get h2 with ⟨q2, e2⟩ | ⟨q2, e2⟩
    · omega
    · subst e1 e2
      exact ⟨a, rfl, n, ha⟩⟩
structure GrI (H0 H : Hp) (q : Addr) (acc : List (List (List Str))) (gl : List Addr) : Prop where
  at' : H q = some (.lst (gl.map V.ref))
  len : acc.length = gl.length
  gr : ∀ (i : Nat) g l, acc[i]? = some g → gl[i]? = some l → ∃ us, H l = some (.lst us) ∧ LsAv H (q :: gl) g us
  nd : gl.Nodup
  nq : q ∉ gl
  new : ∀ l ∈ gl, H0 l = none
  os : ∀ a o, a ≠ q → a ∉ gl → H0 a = some o → H a = some o
theorem GrI.mono {H0 H H' : Hp} {q : Addr} {acc : List (List (List Str))} {gl : List Addr} (I : GrI H0 H q acc gl) (s : Same H H') : GrI H0 H' q acc gl := ⟨s _ _ I.at', I.len, fun i g l h1 h2 => by
  obtain ⟨us, e, a⟩ := I.gr i g l h1 h2
  exact ⟨us, s _ _ e, a.by fun a xs n h => ⟨n, s _ _ h⟩⟩, I.nd, I.nq, I.new, fun a o h1 h2 h3 => s _ _ (I.os a o h1 h2 h3)⟩
theorem GrI.lst {H0 H : Hp} {q : Addr} {acc : List (List (List Str))} {gl : List Addr} (I : GrI H0 H q acc gl) {l : Addr} (hl : l ∈ gl) : ∃ us, H l = some (.lst us) := by
  obtain ⟨i, hi⟩ := List.mem_iff_getElem?.mp hl
  have q := (List.getElem?_eq_some_iff.mp hi).1
  have h1 := I.len
  obtain ⟨us, h, _⟩ := I.gr i _ l (List.getElem?_eq_getElem (by omega)) hi
  exact ⟨us, h⟩
theorem GrI.free {H0 H : Hp} {q : Addr} {acc : List (List (List Str))} {gl : List Addr} (I : GrI H0 H q acc gl) {l : Addr} (h : H l = none) : l ≠ q ∧ l ∉ gl ∧ H0 l = none := by
  have n1 : l ≠ q := fun e => by rw [e, I.at'] at h; cases h
  have n2 : l ∉ gl := fun m => by obtain ⟨ys, e⟩ := I.lst m; rw [e] at h; cases h
  refine ⟨n1, n2, ?_⟩
  cases e : H0 l with
  | none => rfl
  | some o => rw [I.os l o n1 n2 e] at h; cases h
/-- a new group, laid at l -/
theorem GrI.push {H0 H : Hp} {q l : Addr} {acc : List (List (List Str))} {gl : List Addr} (I : GrI H0 H q acc gl) (hl : H l = none) : GrI H0 (upd (upd H l (.lst [])) q (.lst (gl.map V.ref ++ [.ref l]))) q (acc ++ [[]]) (gl ++ [l]) := by
  obtain ⟨n1, n2, n3⟩ := I.free hl
  refine ⟨by rw [upd_same, List.map_append]; rfl, by simp [I.len], fun i g m h1 h2 => ?_, ?_, ?_, ?_, ?_⟩
  · have hln := I.len
    rcases snoc_get h1 with ⟨q1, e1⟩ | ⟨q1, e1⟩
    · rcases snoc_get h2 with ⟨q2, e2⟩ | ⟨q2, e2⟩
      · obtain ⟨us, e, a⟩ := I.gr i g m e1 e2
        have nm : m ≠ q := fun z => I.nq (z ▸ List.mem_of_getElem? e2)
        have nl : m ≠ l := fun z => n2 (z ▸ List.mem_of_getElem? e2)
        refine ⟨us, by rw [upd_ne nm, upd_ne nl]; exact e, a.by fun a xs n h => ?_⟩
        have ml : a ≠ l := fun z => by rw [z, hl] at h; cases h
        refine ⟨fun z => ?_, by rw [upd_ne (fun z => n (by rw [z]; exact List.mem_cons_self)), upd_ne ml]; exact h⟩
        rcases List.mem_cons.mp z with z | z
        · exact n (by rw [z]; exact List.mem_cons_self)
        · rcases List.mem_append.mp z with z | z
          · exact n (List.mem_cons_of_mem _ z)
          · exact ml (List.mem_singleton.mp z)
      · omega
    · rcases snoc_get h2 with ⟨q2, e2⟩ | ⟨q2, e2⟩
      · omega
      · subst e1 e2
        exact ⟨[], by rw [upd_ne n1]; exact upd_same, rfl, fun i ws v h => by cases h⟩
  · rw [List.nodup_append]
    exact ⟨I.nd, by simp, fun x hx y hy e => n2 (by rw [List.mem_singleton] at hy; rw [← hy, ← e]; exact hx)⟩
  · intro z
    rcases List.mem_append.mp z with z | z
    · exact I.nq z
    · exact n1 (List.mem_singleton.mp z).symm
  · intro x hx
    rcases List.mem_append.mp hx with hx | hx
    · exact I.new x hx
    · rw [List.mem_singleton.mp hx]; exact n3
  · intro x o hx hx' e
    rw [upd_ne hx, upd_ne (fun z => hx' (by rw [z]; exact List.mem_append_right _ List.mem_cons_self))]
    exact I.os x o hx (fun z => hx' (List.mem_append_left _ z)) e
/-- a line is added to the last group -/
theorem GrI.add {H0 H : Hp} {q l w : Addr} {acc : List (List (List Str))} {g : List (List Str)} {gl : List Addr} {ws : List Str} (hl : acc.length = gl.length) (I : GrI H0 H q (acc ++ [g]) (gl ++ [l])) (hw : H w = some (.lst (ws.map V.str))) (nw : w ≠ q) (nw' : w ∉ gl ++ [l]) :
    ∃ us, us.length = g.length ∧ H l = some (.lst us) ∧ GrI H0 (upd H l (.lst (us ++ [.ref w]))) q (acc ++ [g ++ [ws]]) (gl ++ [l]) := by
  obtain ⟨us, e, a⟩ := I.gr acc.length g l (by simp) (by rw [hl]; simp)
  have hnl : q ≠ l := fun z => I.nq (z ▸ List.mem_append_right _ List.mem_cons_self)
  have av : w ∉ q :: (gl ++ [l]) := fun z => (List.mem_cons.mp z).elim nw nw'
  have kp : ∀ a xs, a ∉ q :: (gl ++ [l]) → H a = some (.lst xs) → a ∉ q :: (gl ++ [l]) ∧ upd H l (.lst (us ++ [.ref w])) a = some (.lst xs) := fun a xs n h => ⟨n, by rw [upd_ne (fun z => n (by rw [z]; exact List.mem_cons_of_mem _ (List.mem_append_right _ List.mem_cons_self)))]; exact h⟩
  refine ⟨us, a.1.symm, e, by rw [upd_ne hnl]; exact I.at', by simp [hl], fun i g' m h1 h2 => ?_, I.nd, I.nq, I.new, fun x o hx hx' e => ?_⟩
  · rcases snoc_get h1 with ⟨q1, e1⟩ | ⟨q1, e1⟩
    · rcases snoc_get h2 with ⟨q2, e2⟩ | ⟨q2, e2⟩
      · obtain ⟨us', e', a'⟩ := I.gr i g' m (by rw [List.getElem?_append_left q1]; exact e1) (by rw [List.getElem?_append_left q2]; exact e2)
        have nm : m ≠ l := fun z => (List.nodup_append.mp I.nd).2.2 m (List.mem_of_getElem? e2) l List.mem_cons_self z
        exact ⟨us', by rw [upd_ne nm]; exact e', a'.by kp⟩
      · omega
    · rcases snoc_get h2 with ⟨q2, e2⟩ | ⟨q2, e2⟩
      · omega
      · subst e1 e2
        exact ⟨us ++ [.ref w], upd_same, (a.by kp).snoc av (kp w _ av hw).2⟩
  · rw [upd_ne (fun z => hx' (by rw [z]; exact List.mem_append_right _ List.mem_cons_self))]
    exact I.os x o hx hx' e
theorem GrI.same {H0 H : Hp} {q : Addr} {acc : List (List (List Str))} {gl : List Addr} (hq : H0 q = none) (I : GrI H0 H q acc gl) : Same H0 H := fun a o e => I.os a o (fun z => by rw [z, hq] at e; cases e) (fun z => by rw [I.new a z] at e; cases e) e

end
end My

end
section
set_option Elab.async false
set_option linter.all false
set_option maxRecDepth 100000
set_option maxHeartbeats 4000000

namespace My
open PySem L2

section
variable {P : Program} {w : World} {K : PySem.W.Frag} {mg : Str → Option Value} {base : Heap}
noncomputable def SAll (H : Hp) (sts : List StandI) (ys : List V) : Prop := sts.length = ys.length ∧ ∀ (i : Nat) st v, sts[i]? = some st → ys[i]? = some v → StandAt H st v
theorem SAll.mono {H H' : Hp} {sts : List StandI} {ys : List V} (h : SAll H sts ys) (s : Same H H') : SAll H' sts ys := ⟨h.1, fun i st v h1 h2 => (h.2 i st v h1 h2).mono s⟩
theorem SAll.snoc {H : Hp} {sts : List StandI} {ys : List V} {st : StandI} {v : V} (h : SAll H sts ys) (k : StandAt H st v) : SAll H (sts ++ [st]) (ys ++ [v]) := ⟨by simp [h.1], fun i st' v' h1 h2 => by
  have hl := h.1
  rcases snoc_get h1 with ⟨q1, e1⟩ | ⟨q1, e1⟩
  · rcases snoc_get h2 with ⟨q2, e2⟩ | ⟨q2, e2⟩
    · exact h.2 i st' v' e1 e2
    · omega
  · rcases snoc_get h2 with ⟨q2, e2⟩ | ⟨q2, e2⟩
    · omega
    · subst e1 e2
      exact k⟩
/-- a group that was made of lines -/
noncomputable def GOk (n : Nat) (g : List (List Str)) : Prop := g.length ≤ n ∧ ∀ l ∈ g, WsOk l ∧ l ≠ []
section
variable {C_NoText C_LaneError C_NotFormed C_Faulty : Addr}
noncomputable def sp_read_lane (C : Addr) : Sp := spX1 fun x H Q E => ∃ z, x = .str z ∧ z.length ≤ 900000 ∧ isAsc z ∧ (∀ sts, laneP z = some sts → ∀ p ys H', H' p = some (.lst ys) → SAll H' sts ys → Same H H' → Q (.ref p) H') ∧ (laneP z = none → ∀ H', Same H H' → E (.ref C) none H')
theorem sc_read_lane : FnScope ["text", "groups", "line", "words"] ["text"] (defScope s_read_lane) := ⟨rfl, rfl, rfl, by decide +kernel, rfl, by decide +kernel, by decide +kernel⟩
theorem c_read_lane (B : Blt mg) (G : Glb K w mg) (HX : ExH K mg C_NoText C_LaneError C_NotFormed C_Faulty) (T_read_lane : TopFn K mg "read_lane" s_read_lane ["text"]) (Cread_stand : CalleeX P w K mg base C_NoText "read_stand" 8 ["group"] (sp_read_stand C_NoText)) : CalleeX P w K mg base C_NoText "read_lane" 9 ["text"] (sp_read_lane C_NoText) := by
  refine T_read_lane.okX1 sc_read_lane fun f cdv A outer s H v1 Q E hr h => ?_
  have nd := sc_read_lane.nd
  obtain ⟨z, rfl, hz, az, k, no⟩ := h
  refine' go_bodyX [some (.str z), none, none, none] rfl ?hb ?hg
  case hb =>
   refine' pss_cons ?zb ?zc
   case zb => exact (ps_setL (i := 1) nd rfl (Or.inl rfl) (pe_lst pa_nil))
   case zc =>
    refine' pss_cons ?zd ?ze
    case zd =>
     refine' ps_for ?zf ?zg ?zh ?zi ?zj
     case zf => exact PassesOwn.leaving
     case zg => exact rfl
     case zh =>
      refine' k_pi_list (K := K) ?zk ?zl
      case zk => exact rfl
      case zl => exact (k_bm (K := K) rfl PySem.F.plainAttrs_str PySem.F.slot_str_split PySem.F.type_str_split mt_split (pv 0) (pa_consK pe_str pa_nil))
     case zi => exact (pg_name (i := 2) nd rfl (Or.inl rfl))
     case zj =>
      refine' pss_cons ?zm ?zn
      case zm =>
       refine' ps_setC (i := 3) ?zo ?zp ?zq ?zr
       case zo => exact nd
       case zp => exact rfl
       case zq => exact (Or.inl rfl)
       case zr => exact (k_bm (K := K) rfl PySem.F.plainAttrs_str PySem.F.slot_str_split PySem.F.type_str_split mt_split (pv 2) (pa_consK pe_str pa_nil))
      case zn =>
       refine' pss_cons ?zs ?zt
       case zs =>
        refine' ps_if ?zu ?zv ?zw
        case zu => exact (pt_cmpR op_eq (pe_ix (k_ix (K := K) rfl) (pv 3) pe_int (fun _ _ => rfl)) pe_str (nomark _))
        case zv =>
         refine' pss_one ?zx
         case zx =>
          refine' ps_expr ?zy
          case zy => exact (k_bm (K := K) rfl PySem.F.plainAttrs_list PySem.F.slot_list_append PySem.F.type_list_append mt_append (pv 1) (pa_consL (pe_lst pa_nil) pa_nil))
        case zw =>
         refine' pss_one ?zz
         case zz =>
          refine' ps_if ?zba ?zbb ?zbc
          case zba => exact (pt_cmpR op_eq (pe_callB (k_len (K := K) rfl) (by rfl) B.b_len bt_len (pa_consN (pv 1) pa_nil)) pe_int (nomark _))
          case zbb => exact (pss_one (ps_raise (by rfl) HX.m_NoText HX.exc (pa_consK pe_str pa_nil)))
          case zbc => exact pss_nil
       case zt =>
        refine' pss_one ?zbd
        case zbd =>
         refine' ps_expr ?zbe
         case zbe =>
          refine' k_bm (K := K) ?zbf ?zbg ?zbh ?zbi ?zbj ?zbk ?zbl
          case zbf => exact rfl
          case zbg => exact PySem.F.plainAttrs_list
          case zbh => exact PySem.F.slot_list_append
          case zbi => exact PySem.F.type_list_append
          case zbj => exact mt_append
          case zbk => exact (pe_ix (k_ix (K := K) rfl) (pv 1) (pe_un un_neg pe_int) (fun _ _ => rfl))
          case zbl => exact (pa_consN (pv 3) pa_nil)
    case ze =>
     refine' pss_one ?zbm
     case zbm =>
      refine' ps_ret ?zbn
      case zbn =>
       refine' pe_compX (LN := ["group"]) (FN := []) (fr := []) ?zbo ?zbp ?zbq ?zbr ?zbs ?zbt
       case zbo => exact rfl
       case zbp => exact (bk_of (by rfl))
       case zbq => exact (k_pi_list (K := K) rfl (pv 1))
       case zbr =>
        intro cl C fp pins s H
        exact (pg_name (i := 0) (show ((["group"] : List Str) ++ ([] : List Str)).Nodup by decide +kernel) rfl (Or.inl rfl))
       case zbs =>
        intro cl C fp pins s H
        exact pts_nil
       case zbt =>
        intro cl C fp pins s H hin
        exact (pe_fnXb hin Cread_stand (hr.mono (by first | decide | omega)) (by rfl) (pa_consN (pv 0) pa_nil))
  walk_at "rd"
  walk_at "mk"; intro q hq
  have s0 := Same.new (o := .lst []) hq
  have e0 : upd H q (.lst []) q = some (.lst []) := upd_same
  have I0 : GrI H (upd H q (.lst [])) q [] [] := ⟨e0, rfl, fun i d v e => (by cases e), List.nodup_nil, List.not_mem_nil, fun l hl => (by cases hl), fun a o n _ e => s0 _ _ e⟩
  generalize upd H q (.lst []) = H0 at s0 e0 I0
  walk_at "rd"
  refine ⟨rfl, ?_⟩
  walk_at "rd"
  refine rd_split (by decide) (big_le (by omega)) fun p1 hp1 => ?_
  rw [show (Str.ofString "\n") = (⟨#[10]⟩ : Str) from feed_eq]
  generalize hls : Txt.split z ⟨#[10]⟩ = lines
  have hgz : groupsP z = lines.foldlM groupP [] := by unfold groupsP; rw [feed_eq, hls]
  have hll : lines.length ≤ 900002 := by
    have := split_len z ⟨#[10]⟩
    rw [hls] at this
    omega
  have s1 := Same.new (o := .lst (lines.map V.str)) hp1
  have e1 : upd H0 p1 (.lst (lines.map V.str)) p1 = some (.lst (lines.map V.str)) := upd_same
  have I1 := I0.mono s1
  have npq : p1 ≠ q := fun e => by rw [e, e0] at hp1; cases hp1
  generalize upd H0 p1 (.lst (lines.map V.str)) = H1 at s1 e1 I1
  refine ilK_of (SqL.of e1) ?_
  refine for_list (xs := lines.map V.str) (fun i σ Hx => ∃ c2 c3 acc gl, σ = [some (.str z), some (.ref q), c2, c3] ∧ (lines.take i).foldlM groupP [] = some acc ∧ acc.length ≤ i ∧ (∀ g ∈ acc, GOk i g ∧ g ≠ []) ∧ GrI H Hx q acc gl ∧ p1 ∉ gl ∧ Hx p1 = some (.lst (lines.map V.str))) ⟨none, none, [], [], rfl, rfl, Nat.le_refl _, fun d hd => (by cases hd), I1, List.not_mem_nil, e1⟩ (fun i σ Hx _ ⟨_, _, _, _, _, _, _, _, _, _, e⟩ => SqL.of e) ?_ ?_
  · rintro i x σ Hx hx ⟨c2, c3, acc, gl, rfl, hacc, hal, hag, I, np, ep⟩
    rw [List.getElem?_map] at hx
    obtain ⟨line, el, rfl⟩ := Option.map_eq_some_iff.mp hx
    have hmem : line ∈ Txt.split z ⟨#[10]⟩ := by rw [hls]; exact List.mem_of_getElem? el
    have al := asc_part hmem az
    have hlz := (split_part hmem).2
    have hil : i < lines.length := (List.getElem?_eq_some_iff.mp el).1
    have next := fold_snoc (f := groupP) el hacc
    have wo : WsOk (Txt.split line ⟨#[32]⟩) := WsOk.split (by omega) al
    have eG : groupP acc line = groupW acc (Txt.split line ⟨#[32]⟩) := by unfold groupP; rw [blank_eq]
    walk_at "rd"
    refine ⟨rfl, ?_⟩
    walk_at "rd"
    refine rd_split (by decide) (big_le (by omega)) fun p2 hp2 => ?_
    rw [show (Str.ofString " ") = (⟨#[32]⟩ : Str) from blank_eq]
    obtain ⟨w0, ws, hws⟩ : ∃ w0 ws, Txt.split line ⟨#[32]⟩ = w0 :: ws := by
      cases hws : Txt.split line ⟨#[32]⟩ with
      | nil => exact absurd hws (split_ne _ _)
      | cons w0 ws => exact ⟨w0, ws, rfl⟩
    rw [hws] at wo eG ⊢
    obtain ⟨n2q, n2l, _⟩ := I.free hp2
    have s2 := Same.new (o := .lst ((w0 :: ws).map V.str)) hp2
    have e2 : upd Hx p2 (.lst ((w0 :: ws).map V.str)) p2 = some (.lst ((w0 :: ws).map V.str)) := upd_same
    have I2 := I.mono s2
    have ep2 := s2 _ _ ep
    generalize upd Hx p2 (.lst ((w0 :: ws).map V.str)) = H2 at s2 e2 I2 ep2
    refine rd_gname ?_
    dsimp only
    refine rd_seq ?_
    refine rd_meet (fun σ' H' => ∃ acc0 g0 gl0 l0, σ' = [some (.str z), some (.ref q), some (.str line), some (.ref p2)] ∧ groupP acc line = some (acc0 ++ [g0 ++ [w0 :: ws]]) ∧ acc0.length = gl0.length ∧ acc0.length ≤ i ∧ (∀ g ∈ acc0, GOk i g ∧ g ≠ []) ∧ GOk i g0 ∧ GrI H H' q (acc0 ++ [g0]) (gl0 ++ [l0]) ∧ H' p2 = some (.lst ((w0 :: ws).map V.str)) ∧ p2 ∉ gl0 ++ [l0] ∧ p1 ∉ gl0 ++ [l0] ∧ H' p1 = some (.lst (lines.map V.str))) ?_ fun N hN => ?_
    rotate_left
    · walk_at "rd"
      refine rd_ixaL e2 (v := .str w0) (atI_at (n := 0) rfl rfl) ?_
      walk_at "rd"
      refine ite_dd (fun hd => ?_) (fun hd => ?_)
      · have eG : groupP acc line = some (acc ++ [[] ++ [w0 :: ws]]) := by
          rw [eG]
          unfold groupW
          rw [if_pos (show (w0 :: ws).head? = some standW from congrArg some hd)]
          rfl
        walk_at "rd"
        refine ⟨.inl ⟨rfl, _, SqL.of I2.at'⟩, ?_⟩
        walk_at "rd"
        walk_at "mk"; intro l3 hl3
        obtain ⟨n3q, n3l, _⟩ := I2.free hl3
        have hvl := I2.len
        walk_at "rd"
        refine rd_append (by rw [upd_ne (Ne.symm n3q)]; exact I2.at') (Nat.lt_of_le_of_lt (show (gl.map V.ref).length ≤ 1000000 by rw [List.length_map]; omega) (by rw [PySem.sizeLine_eq]; decide)) ?_
        have n23 : p2 ≠ l3 := fun e => by rw [← e, e2] at hl3; cases hl3
        have n13 : p1 ≠ l3 := fun e => by rw [← e, ep2] at hl3; cases hl3
        refine hN _ _ ⟨acc, [], gl, l3, rfl, eG, hvl, hal, hag, ⟨Nat.zero_le _, fun l hl => (by cases hl)⟩, I2.push hl3, by rw [upd_ne n2q, upd_ne n23]; exact e2, fun hm => ?_, fun hm => ?_, by rw [upd_ne npq, upd_ne n13]; exact ep2⟩
        · rcases List.mem_append.mp hm with hm | hm
          · exact n2l hm
          · exact n23 (List.mem_singleton.mp hm)
        · rcases List.mem_append.mp hm with hm | hm
          · exact np hm
          · exact n13 (List.mem_singleton.mp hm)
      · walk_at "rd"
        refine rd_lenL' (SqL.of I2.at') ?_
        walk_at "rd"
        have hvl := I2.len
        have eG : groupP acc line = if acc = [] then none else some (addG acc (w0 :: ws)) := by
          rw [eG]
          unfold groupW
          rw [if_neg (show ¬ (w0 :: ws).head? = some standW from fun e => hd (Option.some.inj e))]
        refine ite_dd (fun h0 => ?_) (fun h0 => ?_)
        · walk_at "rd"
          have : acc = [] := List.eq_nil_of_length_eq_zero (by rw [List.length_map] at h0; omega)
          rw [if_pos this] at eG
          refine ⟨by decide, no ?_ _ ((I.same hq).trans s2)⟩
          unfold laneP
          rw [hgz, take_none (i := i + 1) (by rw [next]; exact eG)]
          rfl
        have hne : acc ≠ [] := fun e => h0 (by rw [e] at hvl; rw [List.length_map, ← hvl]; rfl)
        rw [if_neg hne] at eG
        have hgn : gl ≠ [] := fun e => hne (List.eq_nil_of_length_eq_zero (by rw [hvl, e]; rfl))
        obtain ⟨acc0, g0, rfl⟩ : ∃ a d, acc = a ++ [d] := ⟨_, _, (List.dropLast_concat_getLast hne).symm⟩
        obtain ⟨gl0, l0, rfl⟩ : ∃ a d, gl = a ++ [d] := ⟨_, _, (List.dropLast_concat_getLast hgn).symm⟩
        rw [addG_snoc] at eG
        walk_at "rd"
        exact hN _ _ ⟨acc0, g0, gl0, l0, rfl, eG, by simpa using hvl, by simp at hal; omega, fun g hg => hag g (List.mem_append_left _ hg), (hag g0 (List.mem_append_right _ List.mem_cons_self)).1, I2, e2, n2l, np, ep2⟩
    rintro σ H3 ⟨acc0, g0, gl0, l0, rfl, eG, hl0, ha0, hg0, gk, I3, e3, n3, n13, ep3⟩
    have hat : H3 q = some (.lst (gl0.map V.ref ++ [.ref l0])) := by have := I3.at'; rwa [List.map_append] at this
    obtain ⟨us, hul, hus, I4⟩ := GrI.add hl0 I3 e3 n2q n3
    have hgl := gk.1
    walk_at "rd"
    refine rd_ixaL hat (v := .ref l0) (atI_last _ _) ?_
    walk_at "rd"
    refine ⟨.inl ⟨rfl, _, SqL.of hus⟩, ?_⟩
    walk_at "rd"
    refine rd_append hus (Nat.lt_of_le_of_lt (show us.length ≤ 1000000 by omega) (by rw [PySem.sizeLine_eq]; decide)) ?_
    refine ⟨_, _, _, _, rfl, by rw [next]; exact eG, by simp; omega, fun g hg => ?_, I4, n13, ?_⟩
    · rcases List.mem_append.mp hg with hg | hg
      · obtain ⟨h1, h2⟩ := hg0 g hg
        exact ⟨⟨by have := h1.1; omega, h1.2⟩, h2⟩
      · rw [List.mem_singleton.mp hg]
        refine ⟨⟨by simp; omega, fun l hl => ?_⟩, by simp⟩
        rcases List.mem_append.mp hl with hl | hl
        · exact gk.2 l hl
        · rw [List.mem_singleton.mp hl]
          exact ⟨wo, List.cons_ne_nil _ _⟩
    · rw [upd_ne (fun e => n13 (by rw [e]; exact List.mem_append_right _ List.mem_cons_self))]
      exact ep3
  · rintro σ Hx ⟨c2, c3, acc, gl, rfl, hacc, hal, hag, I, np, ep⟩
    rw [List.length_map, List.take_length] at hacc
    rw [hacc] at hgz
    have eL : laneP z = acc.mapM standP := by unfold laneP; rw [hgz]; rfl
    have sI := I.same hq
    have hln := I.len
    rw [List.length_map] at hal hag
    walk_at "rd"
    refine ilK_of (SqL.of I.at') ?_
    refine cw_list (xs := gl.map V.ref) (big_le (by rw [List.length_map]; omega)) (fun j ys σ Hy => (∃ x1, σ = [x1]) ∧ Same Hx Hy ∧ ∃ sts, (acc.take j).mapM standP = some sts ∧ SAll Hy sts ys) ⟨⟨none, rfl⟩, Same.refl _, [], rfl, rfl, fun i st v e => by cases e⟩ (fun j ys σ Hy _ ⟨_, s6, _⟩ => SqL.of (s6 _ _ I.at')) ?_ ?_
    · rintro j y ys σ Hy hx hle hlt ⟨⟨x1, rfl⟩, s6, sts, hst, sa⟩
      rw [List.getElem?_map] at hx
      obtain ⟨l, el, rfl⟩ := Option.map_eq_some_iff.mp hx
      have hjl := (List.getElem?_eq_some_iff.mp el).1
      have eg : acc[j]? = some (acc[j]'(by omega)) := List.getElem?_eq_getElem _
      generalize acc[j]'(by omega) = g at eg
      obtain ⟨us, hus, la⟩ := I.gr j g l eg el
      obtain ⟨⟨gl1, gk⟩, gne⟩ := hag g (List.mem_of_getElem? eg)
      have nx := mapM_snoc (f := standP) eg hst
      walk_at "rd"
      refine useX1 ⟨l, g, us, rfl, s6 _ _ hus, la.at.mono s6, ⟨by omega, gk⟩, gne, fun st hs v H7 sv s7 => ?_, fun hs H7 s7 => no (by rw [eL, mapM_none (i := j + 1) (by rw [nx, hs]; rfl)]) _ ((sI.trans s6).trans s7)⟩
      exact ⟨hlt, by simpa using hle, ⟨_, rfl⟩, s6.trans s7, sts ++ [st], by rw [nx, hs]; rfl, (sa.mono s7).snoc sv⟩
    rintro ys σ Hy hyy ⟨⟨x1, rfl⟩, s6, sts, hst, sa⟩ p7 hp7
    rw [List.length_map, ← hln, List.take_length] at hst
    walk_at "rd"
    have s7 := Same.new (o := .lst ys) hp7
    exact k sts (by rw [eL, hst]) p7 ys _ upd_same (sa.mono s7) ((sI.trans s6).trans s7)
end

end
end My

end
section
set_option Elab.async false
set_option linter.all false
set_option maxRecDepth 100000
set_option maxHeartbeats 4000000

namespace My
open PySem L2

section
variable {P : Program} {w : World} {K : PySem.W.Frag} {mg : Str → Option Value} {base : Heap}
theorem ints_reps3 {H : Hp} : ∀ (ns : List Int), Reps H (ns.map D.int) (ns.map V.int)
  | [] => reps_nil
  | n :: ns => reps_cons rep_int (ints_reps3 ns)
noncomputable def FRB (f : FrameI) : Prop := N60 f.1 ∧ N60 f.2.1 ∧ LB f.2.2
structure SB (st : StandI) : Prop where
  many : N60 st.1
  few : st.2.1.length ≤ 4
  fr : ∀ f ∈ st.2.1, FRB f
  nums : ∀ n ∈ st.2.2.2.1, N60 n
  eds : ∀ e ∈ st.2.2.2.2, EB e
  deed : DeedF st.2.2
theorem pick6 : ∀ r : Nat, r < 6 → ∃ (wd : Str) (ec : Nat), ec ≤ 2 ∧ ([V.str "go", V.str "test", V.str "tell", V.str "take", V.str "hold", V.str "leave"] : List V)[r]? = some (.str wd) ∧ ([V.int 1, V.int 2, V.int 1, V.int 1, V.int 1, V.int 0] : List V)[r]? = some (.int ec) ∧ ∃ ks, deedT.lookup wd = some ks ∧ (if r = 4 then 2 else 0) = ks.countP (· == numberW) ∧ ec = ks.countP (· == edgeW)
  | 0, _ => ⟨"go", 1, by decide, rfl, rfl, ["edge"], by decide +kernel, by decide +kernel, by decide +kernel⟩
  | 1, _ => ⟨"test", 2, by decide, rfl, rfl, ["edge", "edge"], by decide +kernel, by decide +kernel, by decide +kernel⟩
  | 2, _ => ⟨"tell", 1, by decide, rfl, rfl, ["edge"], by decide +kernel, by decide +kernel, by decide +kernel⟩
  | 3, _ => ⟨"take", 1, by decide, rfl, rfl, ["edge"], by decide +kernel, by decide +kernel, by decide +kernel⟩
  | 4, _ => ⟨"hold", 1, by decide, rfl, rfl, ["number", "number", "edge"], by decide +kernel, by decide +kernel, by decide +kernel⟩
  | 5, _ => ⟨"leave", 0, by decide, rfl, rfl, [], by decide +kernel, by decide +kernel, by decide +kernel⟩
  | n + 6, h => absurd h (by omega)
/-- a stand whose paper is neither b nor q -/
noncomputable def StAv (b q : Addr) (H : Hp) (st : StandI) (v : V) : Prop := ∃ t l ys vd, v = .ref t ∧ H t = some (.tup [.int st.1, .ref l, vd]) ∧ H l = some (.lst ys) ∧ l ≠ b ∧ l ≠ q ∧ Reps H (st.2.1.map frameD) ys ∧ Rep H (deedD st.2.2) vd
theorem StAv.bs {b q l0 : Addr} {H H' : Hp} {st : StandI} {v : V} (h : StAv b q H st v) (B : BagAt H b l0) (s : BSame b H H') : StAv b q H' st v := by
  obtain ⟨t, l, ys, vd, rfl, e1, e2, n1, n2, r1, r2⟩ := h
  exact ⟨t, l, ys, vd, rfl, s.ts B _ _ e1, s _ _ n1 e2, n1, n2, r1.mono (s.ts B), r2.mono (s.ts B)⟩
theorem StAv.wr {b q : Addr} {H : Hp} {st : StandI} {v : V} {xs zs : List V} (h : StAv b q H st v) (hq : H q = some (.lst xs)) : StAv b q (upd H q (.lst zs)) st v := by
  obtain ⟨t, l, ys, vd, rfl, e1, e2, n1, n2, r1, r2⟩ := h
  have tw : TSame H (upd H q (.lst zs)) := TSame.wr (fun zs z => by rw [hq] at z; cases z)
  exact ⟨t, l, ys, vd, rfl, tw _ _ e1, by rw [upd_ne n2]; exact e2, n1, n2, r1.mono tw, r2.mono tw⟩
noncomputable def SAv (b q : Addr) (H : Hp) (sts : List StandI) (vs : List V) : Prop := sts.length = vs.length ∧ ∀ (i : Nat) st v, sts[i]? = some st → vs[i]? = some v → StAv b q H st v
theorem SAv.all {b q : Addr} {H : Hp} {sts : List StandI} {vs : List V} (h : SAv b q H sts vs) : SAll H sts vs := ⟨h.1, fun i st v h1 h2 => by
  obtain ⟨t, l, ys, vd, rfl, e1, e2, n1, n2, r1, r2⟩ := h.2 i st v h1 h2
  exact ⟨t, l, ys, vd, rfl, e1, e2, r1, r2⟩⟩
theorem SAv.snoc {b q : Addr} {H : Hp} {sts : List StandI} {vs : List V} {st : StandI} {v : V} (h : SAv b q H sts vs) (k : StAv b q H st v) : SAv b q H (sts ++ [st]) (vs ++ [v]) := ⟨by simp [h.1], fun i st' v' h1 h2 => by
  rcases snoc_get h1 with ⟨g1, g2⟩ | ⟨g1, rfl⟩
  · rcases snoc_get h2 with ⟨f1, f2⟩ | ⟨f1, _⟩
    · exact h.2 i st' v' g2 f2
    · have := h.1; omega
  · rcases snoc_get h2 with ⟨f1, f2⟩ | ⟨_, rfl⟩
    · have := h.1; omega
    · exact k⟩
noncomputable def sp_wlane : Sp := sp1 fun x H Q => ∃ b l, x = .ref b ∧ BagAt H b l ∧ ∀ sts q vs H', sts ≠ [] → sts.length ≤ 5 → (∀ st ∈ sts, SB st) → H q = none → q ≠ b → H' q = some (.lst vs) → SAll H' sts vs → BagAt H' b l → BSame b H H' → Q (.ref q) H'
theorem sc__law_wild_lane : FnScope ["bag", "lane", "k", "kind", "deed", "j", "many", "paper"] ["bag"] (defScope s__law_wild_lane) := ⟨rfl, rfl, rfl, by decide +kernel, rfl, by decide +kernel, by decide +kernel⟩
theorem c__law_wild_lane (B : Blt mg) (T__law_wild_lane : TopFn K mg "_law_wild_lane" s__law_wild_lane ["bag"]) (C_law_draw : Callee P w K mg base "_law_draw" 1 ["bag", "many"] sp_draw) (C_law_number : Callee P w K mg base "_law_number" 2 ["bag"] sp_number) (C_law_wild_forms : Callee P w K mg base "_law_wild_forms" 3 ["bag"] sp_wforms) (C_law_wild_edge : Callee P w K mg base "_law_wild_edge" 4 ["bag"] sp_wedge) : Callee P w K mg base "_law_wild_lane" 5 ["bag"] sp_wlane := by
  refine T__law_wild_lane.ok1 sc__law_wild_lane fun f cdv A outer s H v1 Q E hr h => ?_
  have nd := sc__law_wild_lane.nd
  obtain ⟨b, l, rfl, Bg, k⟩ := h
  refine' go_body [some (.ref b), none, none, none, none, none, none, none] rfl ?hb ?hg
  case hb =>
   refine' pss_cons ?zb ?zc
   case zb => exact (ps_setL (i := 1) nd rfl (Or.inl rfl) (pe_lst pa_nil))
   case zc =>
    refine' pss_cons ?zd ?ze
    case zd =>
     refine' ps_for ?zf ?zg ?zh ?zi ?zj
     case zf => exact PassesOwn.never
     case zg => exact rfl
     case zh =>
      refine' pi_range1 ?zk ?zl ?zm
      case zk => exact rfl
      case zl => exact B.b_range
      case zm => exact (pa_consB (pe_op op_add pe_int (pe_fn C_law_draw (hr.mono (by first | decide | omega)) (by rfl) (pa_consN (pv 0) (pa_consK pe_int pa_nil)))) pa_nil)
     case zi => exact (pg_name (i := 2) nd rfl (Or.inl rfl))
     case zj =>
      refine' pss_cons ?zn ?zo
      case zn => exact (ps_setC (i := 3) nd rfl (Or.inl rfl) (pe_fn C_law_draw (hr.mono (by first | decide | omega)) (by rfl) (pa_consN (pv 0) (pa_consK pe_int pa_nil))))
      case zo =>
       refine' pss_cons ?zp ?zq
       case zp =>
        refine' ps_setT (i := 4) ?zr ?zs ?zt ?zu
        case zr => exact nd
        case zs => exact rfl
        case zt => exact (Or.inl rfl)
        case zu =>
         refine' pe_tup ?zv
         case zv =>
          refine' pa_consS ?zw ?zx
          case zw =>
           refine' pe_ix ?zy ?zz ?zba ?zbb
           case zy => exact (k_ix (K := K) rfl)
           case zz => exact (pe_lst (pa_consK pe_str (pa_consK pe_str (pa_consK pe_str (pa_consK pe_str (pa_consK pe_str (pa_consK pe_str pa_nil)))))))
           case zba => exact (pv 3)
           case zbb => exact (fun _ _ => rfl)
          case zx => exact pa_nil
       case zq =>
        refine' pss_cons ?zbc ?zbd
        case zbc =>
         refine' ps_if ?zbe ?zbf ?zbg
         case zbe => exact (pt_cmpR op_eq (pv 3) pe_int (nomark _))
         case zbf =>
          refine' pss_one ?zbh
          case zbh =>
           refine' ps_setB (i := 4) ?zbi ?zbj ?zbk ?zbl
           case zbi => exact nd
           case zbj => exact rfl
           case zbk => exact (Or.inl rfl)
           case zbl =>
            refine' pe_op ?zbm ?zbn ?zbo
            case zbm => exact (k_catW (K := K) rfl)
            case zbn => exact (pv 4)
            case zbo =>
             refine' pe_tup ?zbp
             case zbp =>
              refine' pa_consC ?zbq ?zbr
              case zbq => exact (pe_fn C_law_number (hr.mono (by first | decide | omega)) (by rfl) (pa_consN (pv 0) pa_nil))
              case zbr => exact (pa_consC (pe_fn C_law_number (hr.mono (by first | decide | omega)) (by rfl) (pa_consN (pv 0) pa_nil)) pa_nil)
         case zbg => exact pss_nil
        case zbd =>
         refine' pss_cons ?zbs ?zbt
         case zbs =>
          refine' ps_for ?zbu ?zbv ?zbw ?zbx ?zby
          case zbu => exact PassesOwn.never
          case zbv => exact rfl
          case zbw =>
           refine' pi_range1 ?zbz ?zca ?zcb
           case zbz => exact rfl
           case zca => exact B.b_range
           case zcb =>
            refine' pa_consS ?zcc ?zcd
            case zcc =>
             refine' pe_ix ?zce ?zcf ?zcg ?zch
             case zce => exact (k_ix (K := K) rfl)
             case zcf => exact (pe_lst (pa_consK pe_int (pa_consK pe_int (pa_consK pe_int (pa_consK pe_int (pa_consK pe_int (pa_consK pe_int pa_nil)))))))
             case zcg => exact (pv 3)
             case zch => exact (fun _ _ => rfl)
            case zcd => exact pa_nil
          case zbx => exact (pg_name (i := 5) nd rfl (Or.inl rfl))
          case zby =>
           refine' pss_one ?zci
           case zci =>
            refine' ps_setB (i := 4) ?zcj ?zck ?zcl ?zcm
            case zcj => exact nd
            case zck => exact rfl
            case zcl => exact (Or.inl rfl)
            case zcm =>
             refine' pe_op ?zcn ?zco ?zcp
             case zcn => exact (k_catW (K := K) rfl)
             case zco => exact (pv 4)
             case zcp => exact (pe_tup (pa_consC (pe_fn C_law_wild_edge (hr.mono (by first | decide | omega)) (by rfl) (pa_consN (pv 0) pa_nil)) pa_nil))
         case zbt =>
          refine' pss_cons ?zcq ?zcr
          case zcq => exact (ps_setC (i := 6) nd rfl (Or.inl rfl) (pe_fn C_law_number (hr.mono (by first | decide | omega)) (by rfl) (pa_consN (pv 0) pa_nil)))
          case zcr =>
           refine' pss_cons ?zcs ?zct
           case zcs => exact (ps_setL (i := 7) nd rfl (Or.inl rfl) (pe_lst pa_nil))
           case zct =>
            refine' pss_cons ?zcu ?zcv
            case zcu =>
             refine' ps_for ?zcw ?zcx ?zcy ?zcz ?zda
             case zcw => exact PassesOwn.never
             case zcx => exact rfl
             case zcy =>
              refine' pi_range1 ?zdb ?zdc ?zdd
              case zdb => exact rfl
              case zdc => exact B.b_range
              case zdd => exact (pa_consC (pe_fn C_law_draw (hr.mono (by first | decide | omega)) (by rfl) (pa_consN (pv 0) (pa_consK pe_int pa_nil))) pa_nil)
             case zcz => exact (pg_name (i := 5) nd rfl (Or.inl rfl))
             case zda =>
              refine' pss_one ?zde
              case zde =>
               refine' ps_expr ?zdf
               case zdf =>
                refine' k_bm (K := K) ?zdg ?zdh ?zdi ?zdj ?zdk ?zdl ?zdm
                case zdg => exact rfl
                case zdh => exact PySem.F.plainAttrs_list
                case zdi => exact PySem.F.slot_list_append
                case zdj => exact PySem.F.type_list_append
                case zdk => exact mt_append
                case zdl => exact (pv 7)
                case zdm =>
                 refine' pa_consT ?zdn ?zdo
                 case zdn =>
                  refine' pe_tup ?zdp
                  case zdp =>
                   refine' pa_consC ?zdq ?zdr
                   case zdq => exact (pe_fn C_law_number (hr.mono (by first | decide | omega)) (by rfl) (pa_consN (pv 0) pa_nil))
                   case zdr =>
                    refine' pa_consC ?zds ?zdt
                    case zds => exact (pe_fn C_law_number (hr.mono (by first | decide | omega)) (by rfl) (pa_consN (pv 0) pa_nil))
                    case zdt => exact (pa_consC (pe_fn C_law_wild_forms (hr.mono (by first | decide | omega)) (by rfl) (pa_consN (pv 0) pa_nil)) pa_nil)
                 case zdo => exact pa_nil
            case zcv =>
             refine' pss_one ?zdu
             case zdu =>
              refine' ps_expr ?zdv
              case zdv =>
               refine' k_bm (K := K) ?zdw ?zdx ?zdy ?zdz ?zea ?zeb ?zec
               case zdw => exact rfl
               case zdx => exact PySem.F.plainAttrs_list
               case zdy => exact PySem.F.slot_list_append
               case zdz => exact PySem.F.type_list_append
               case zea => exact mt_append
               case zeb => exact (pv 1)
               case zec => exact (pa_consT (pe_tup (pa_consN (pv 6) (pa_consN (pv 7) (pa_consN (pv 4) pa_nil)))) pa_nil)
    case ze => exact (pss_one (ps_ret (pv 1)))
  walk_at "rd"
  walk_at "mk"; intro q hq
  have s0 := Same.new (o := .lst []) hq
  have nqb : q ≠ b := fun z => (Bg.ne hq).1 z.symm
  have nql : q ≠ l := fun z => (Bg.ne hq).2 z.symm
  walk_at "rd"
  refine use2 ⟨b, l, 5, rfl, rfl, ⟨by decide, by decide⟩, Bg.mono s0, fun n1 H1 g0 g1 B1 b1 => ?_⟩
  walk_at "rd"
  refine irK_of (by omega) (by omega) ?_
  refine for_range (n := (1 + n1).toNat) (fun i σ Hx => ∃ (sts : List StandI) (vs : List V) (x2 x3 x4 x5 x6 x7 : Option V), σ = [some (.ref b), some (.ref q), x2, x3, x4, x5, x6, x7] ∧ Hx q = some (.lst vs) ∧ SAv b q Hx sts vs ∧ sts.length = i ∧ (∀ st ∈ sts, SB st) ∧ BagAt Hx b l ∧ BSame b H Hx)
    ⟨[], [], none, none, none, none, none, none, rfl, b1 _ _ nqb upd_same, ⟨rfl, fun i st v h1 => by cases h1⟩, rfl, (fun f hf => by cases hf), B1, ((BSame.refl b H).to s0).trans b1⟩ ?_ ?_
  · rintro i σ Hx hi ⟨sts, vs, x2, x3, x4, x5, x6, x7, rfl, hqx, sv, hl, ok, Bx, bx⟩
    have hvl := sv.1
    walk_at "rd"
    refine use2 ⟨b, l, 6, rfl, rfl, ⟨by decide, by decide⟩, Bx, fun r H2 r0 r1 B2 b2 => ?_⟩
    obtain ⟨r, rfl⟩ := Int.eq_ofNat_of_zero_le r0
    obtain ⟨wd, ec, hec, ew, ee, ks, ek, cn, ce⟩ := pick6 r (by omega)
    walk_at "rd"
    walk_at "mk"; intro p3 hp3
    have s3 := Same.new (o := .lst [V.str "go", V.str "test", V.str "tell", V.str "take", V.str "hold", V.str "leave"]) hp3
    have e3 : upd H2 p3 (.lst [V.str "go", V.str "test", V.str "tell", V.str "take", V.str "hold", V.str "leave"]) p3 = some (.lst [V.str "go", V.str "test", V.str "tell", V.str "take", V.str "hold", V.str "leave"]) := upd_same
    generalize upd H2 p3 (.lst [V.str "go", V.str "test", V.str "tell", V.str "take", V.str "hold", V.str "leave"]) = H3 at s3 e3
    walk_at "rd"
    refine rd_ixaL e3 (atI_at (n := r) rfl ew) ?_
    walk_at "rd"
    walk_at "mk"; intro p4 hp4
    have s4 := Same.new (o := .tup [V.str wd]) hp4
    have e4 : upd H3 p4 (.tup [V.str wd]) p4 = some (.tup [V.str wd]) := upd_same
    generalize upd H3 p4 (.tup [V.str wd]) = H4 at s4 e4
    have B4 := (B2.mono s3).mono s4
    have b4 : BSame b Hx H4 := (b2.to s3).to s4
    refine rd_gname ?_
    dsimp only
    refine rd_meet (fun σ' H' => ∃ (ns : List Int) (p5 : Addr), σ' = [some (.ref b), some (.ref q), some (.int (0 + (i : Int))), some (.int (r : Int)), some (.ref p5), x5, x6, x7] ∧ H' p5 = some (.tup (V.str wd :: ns.map V.int)) ∧ ns.length = ks.countP (· == numberW) ∧ (∀ n ∈ ns, N60 n) ∧ BagAt H' b l ∧ BSame b Hx H') ?_ fun N hN => ?_
    rotate_left
    · walk_at "rd"
      refine ite_dd (fun h4 => ?_) (fun h4 => ?_)
      · walk_at "rd"
        refine use1 ⟨b, l, rfl, B4, fun n5 H5 t5 B5 b5 => ?_⟩
        walk_at "rd"
        refine use1 ⟨b, l, rfl, B5, fun n6 H6 t6 B6 b6 => ?_⟩
        walk_at "rd"
        walk_at "mk"; intro p7 hp7
        have s7 := Same.new (o := .tup [V.int n5, V.int n6]) hp7
        have e7 : upd H6 p7 (.tup [V.int n5, V.int n6]) p7 = some (.tup [V.int n5, V.int n6]) := upd_same
        generalize upd H6 p7 (.tup [V.int n5, V.int n6]) = H7 at s7 e7
        have e47 := s7 _ _ ((b5.trans b6).ts B4 _ _ e4)
        refine rd_catW e47 e7 (by simp) fun p8 H8 e8 s8 => ?_
        walk_at "rd"
        refine hN _ _ ⟨[n5, n6], p8, rfl, e8, ?_, fun n hn => ?_, (B6.mono s7).mono s8, ((b4.trans (b5.trans b6)).to s7).to s8⟩
        · rw [← cn, if_pos (by omega)]; rfl
        · rcases List.mem_cons.mp hn with rfl | hn
          · exact t5
          · rw [List.mem_singleton.mp hn]; exact t6
      · walk_at "rd"
        refine hN _ _ ⟨[], p4, rfl, e4, ?_, (fun n hn => by cases hn), B4, b4⟩
        rw [← cn, if_neg (by omega)]; rfl
    rintro σ' H5 ⟨ns, p5, rfl, e5, hns, tn, B5, b5⟩
    clear e4 B4 b4 e3
    walk_at "rd"
    walk_at "mk"; intro p6 hp6
    have s6 := Same.new (o := .lst [V.int 1, V.int 2, V.int 1, V.int 1, V.int 1, V.int 0]) hp6
    have e6 : upd H5 p6 (.lst [V.int 1, V.int 2, V.int 1, V.int 1, V.int 1, V.int 0]) p6 = some (.lst [V.int 1, V.int 2, V.int 1, V.int 1, V.int 1, V.int 0]) := upd_same
    generalize upd H5 p6 (.lst [V.int 1, V.int 2, V.int 1, V.int 1, V.int 1, V.int 0]) = H6 at s6 e6
    walk_at "rd"
    refine rd_ixaL e6 (atI_at (n := r) rfl ee) ?_
    walk_at "rd"
    refine irK_of (by omega) (by omega) ?_
    have hns2 : ns.length ≤ 2 := by rw [hns, ← cn]; split <;> omega
    refine for_range (n := ec) (fun j σ Hy => ∃ (es : List EdgeI) (xs : List V) (p7 : Addr) (y5 : Option V), σ = [some (.ref b), some (.ref q), some (.int (0 + (i : Int))), some (.int (r : Int)), some (.ref p7), y5, x6, x7] ∧ Hy p7 = some (.tup xs) ∧ Reps Hy (D.str wd :: (ns.map D.int ++ es.map edgeD)) xs ∧ es.length = j ∧ (∀ e ∈ es, EB e) ∧ BagAt Hy b l ∧ BSame b Hx Hy)
      ⟨[], _, p5, x5, rfl, s6 _ _ e5, reps_cons (by rw [Rep]) (by rw [List.map_nil, List.append_nil]; exact ints_reps3 ns), rfl, (fun e he => by cases he), B5.mono s6, b5.to s6⟩ ?_ ?_
    · rintro j σ Hy hj ⟨es, xs, p7, y5, rfl, e7, rx, hel, oke, By, bY⟩
      have hxl := rx.length
      simp only [List.length_cons, List.length_append, List.length_map] at hxl
      walk_at "rd"
      refine use1 ⟨b, l, rfl, By, fun e v8 H8 t8 r8 B8 b8 => ?_⟩
      walk_at "rd"
      walk_at "mk"; intro p9 hp9
      have s9 := Same.new (o := .tup [v8]) hp9
      have e9 : upd H8 p9 (.tup [v8]) p9 = some (.tup [v8]) := upd_same
      generalize upd H8 p9 (.tup [v8]) = H9 at s9 e9
      refine rd_catW (s9 _ _ (b8.ts By _ _ e7)) e9 (by simp only [List.length_cons, List.length_nil]; omega) fun pa Ha ea sa => ?_
      walk_at "rd"
      refine ⟨es ++ [e], _, pa, _, rfl, ea, ?_, by simp [hel], fun e' he' => ?_, (B8.mono s9).mono sa, ((bY.trans b8).to s9).to sa⟩
      · rw [List.map_append, ← List.append_assoc, ← List.cons_append]
        exact Reps.append (rx.mono (((b8.ts By).trans s9.ts).trans sa.ts)) (reps_cons (r8.mono (s9.ts.trans sa.ts)) reps_nil)
      · rcases List.mem_append.mp he' with he' | he'
        · exact oke e' he'
        · rw [List.mem_singleton.mp he']; exact t8
    rintro σ H7 ⟨es, xs, p7, y5, rfl, e7, rx, hel, oke, B7, b7⟩
    walk_at "rd"
    refine use1 ⟨b, l, rfl, B7, fun many H8 t8 B8 b8 => ?_⟩
    walk_at "rd"
    walk_at "mk"; intro pp hpp
    have spp := Same.new (o := .lst []) hpp
    have npb : pp ≠ b := fun z => (B8.ne hpp).1 z.symm
    have npl : pp ≠ l := fun z => (B8.ne hpp).2 z.symm
    have hq8 := b8 _ _ nqb (b7 _ _ nqb hqx)
    have npq : pp ≠ q := fun z => by rw [z, hq8] at hpp; cases hpp
    have b08 : BSame b Hx H8 := b7.trans b8
    have hppx : Hx pp = none := b08.free npb hpp
    walk_at "rd"
    refine use2 ⟨b, l, 5, rfl, rfl, ⟨by decide, by decide⟩, B8.mono spp, fun m9 H9 m0 m1 B9 b9 => ?_⟩
    walk_at "rd"
    refine irK_of (by omega) (by omega) ?_
    have ts79 : TSame H7 H9 := ((b8.ts B7).trans spp.ts).trans (b9.ts (B8.mono spp))
    refine for_range (n := m9.toNat) (fun j σ Hy => ∃ (fr : List FrameI) (ys : List V) (y5 : Option V), σ = [some (.ref b), some (.ref q), some (.int (0 + (i : Int))), some (.int (r : Int)), some (.ref p7), y5, some (.int many), some (.ref pp)] ∧ Hy pp = some (.lst ys) ∧ Reps Hy (fr.map frameD) ys ∧ fr.length = j ∧ (∀ f ∈ fr, FRB f) ∧ BagAt Hy b l ∧ BSame b Hx Hy ∧ TSame H7 Hy)
      ⟨[], [], y5, rfl, b9 _ _ npb upd_same, reps_nil, rfl, (fun f hf => by cases hf), B9, (b08.to spp).trans b9, ts79⟩ ?_ ?_
    · rintro j σ Hy hj ⟨fr, ys, y5, rfl, epp, ry, hfl, okf, By, bY, tY⟩
      have hyl := ry.length
      rw [List.length_map] at hyl
      walk_at "rd"
      refine ⟨.inl ⟨rfl, ys, SqL.of epp⟩, ?_⟩
      walk_at "rd"
      refine use1 ⟨b, l, rfl, By, fun na Ha ta Ba ba => ?_⟩
      walk_at "rd"
      refine use1 ⟨b, l, rfl, Ba, fun nb Hb tb Bb bb => ?_⟩
      walk_at "rd"
      refine use1 ⟨b, l, rfl, Bb, fun fs vc Hc tc rc Bc bc => ?_⟩
      walk_at "rd"
      walk_at "mk"; intro pd hpd
      have sd := Same.new (o := .tup [V.int na, V.int nb, vc]) hpd
      have ed : upd Hc pd (.tup [V.int na, V.int nb, vc]) pd = some (.tup [V.int na, V.int nb, vc]) := upd_same
      have byc : BSame b Hy Hc := (ba.trans bb).trans bc
      have epd := sd _ _ (byc _ _ npb epp)
      have Bd := Bc.mono sd
      have rcd := rc.mono sd.ts
      generalize upd Hc pd (.tup [V.int na, V.int nb, vc]) = Hd at sd ed epd Bd rcd
      walk_at "rd"
      refine rd_append epd (Nat.lt_of_le_of_lt (show ys.length ≤ 1000 by omega) (by decide)) ?_
      walk_at "rd"
      have tw : TSame Hd (upd Hd pp (.lst (ys ++ [V.ref pd]))) := TSame.wr (fun zs z => by rw [epd] at z; cases z)
      have tyd : TSame Hy Hd := (byc.ts By).trans sd.ts
      refine ⟨fr ++ [(na, nb, fs)], ys ++ [V.ref pd], _, rfl, upd_same, ?_, by simp [hfl], fun f hf => ?_, Bd.wr (Ne.symm npb) (Ne.symm npl), ((bY.trans byc).to sd).wrNew hppx, (tY.trans tyd).trans tw⟩
      · rw [List.map_append]
        exact Reps.append (ry.mono (tyd.trans tw)) (reps_cons ((rep_tup ed (reps_cons rep_int (reps_cons rep_int (reps_cons rcd reps_nil)))).mono tw) reps_nil)
      · rcases List.mem_append.mp hf with hf | hf
        · exact okf f hf
        · rw [List.mem_singleton.mp hf]; exact ⟨ta, tb, tc⟩
    rintro σ Ha ⟨fr, ys, y5', rfl, epp, ry, hfl, okf, Ba, ba, ta⟩
    have hqa := ba _ _ nqb hqx
    walk_at "rd"
    refine ⟨.inl ⟨rfl, vs, SqL.of hqa⟩, ?_⟩
    walk_at "rd"
    walk_at "mk"; intro pt hpt
    have st := Same.new (o := .tup [V.int many, V.ref pp, V.ref p7]) hpt
    have et : upd Ha pt (.tup [V.int many, V.ref pp, V.ref p7]) pt = some (.tup [V.int many, V.ref pp, V.ref p7]) := upd_same
    have hqt := st _ _ hqa
    have ept := st _ _ epp
    have Bt := Ba.mono st
    have rdt : Rep Ha (deedD (wd, ns, es)) (.ref p7) := rep_tup (ta _ _ e7) (rx.mono ta)
    have rdt := rdt.mono st.ts
    have ryt := ry.mono st.ts
    have svt : SAv b q (upd Ha pt (.tup [V.int many, V.ref pp, V.ref p7])) sts vs := ⟨sv.1, fun i st' v h1 h2 => (sv.2 i st' v h1 h2).bs Bx (ba.to st)⟩
    generalize upd Ha pt (.tup [V.int many, V.ref pp, V.ref p7]) = Ht at st et hqt ept Bt rdt ryt svt
    walk_at "rd"
    refine rd_append hqt (Nat.lt_of_le_of_lt (show vs.length ≤ 1000 by omega) (by decide)) ?_
    walk_at "rd"
    have sta : StAv b q Ht (many, fr, (wd, ns, es)) (.ref pt) := ⟨pt, pp, ys, _, rfl, et, ept, npb, npq, ryt, rdt⟩
    have sv1 : SAv b q Ht (sts ++ [(many, fr, (wd, ns, es))]) (vs ++ [.ref pt]) := svt.snoc sta
    refine ⟨sts ++ [(many, fr, (wd, ns, es))], vs ++ [.ref pt], _, _, _, _, _, _, rfl, upd_same, ⟨sv1.1, fun i st' v h1 h2 => (sv1.2 i st' v h1 h2).wr hqt⟩, by simp [hl], fun st' hs => ?_, Bt.wr (Ne.symm nqb) (Ne.symm nql), ((bx.trans ba).to st).wrNew hq⟩
    rcases List.mem_append.mp hs with hs | hs
    · exact ok st' hs
    · rw [List.mem_singleton.mp hs]
      exact ⟨t8, by show fr.length ≤ 4; omega, okf, tn, oke, ks, ek, hns, by rw [hel, ce]⟩
  · rintro σ Hx ⟨sts, vs, x2, x3, x4, x5, x6, x7, rfl, hqx, sv, hl, ok, Bx, bx⟩
    walk_at "rd"
    exact k sts q vs Hx (fun e => by rw [e] at hl; simp at hl; omega) (by omega) ok hq nqb hqx sv.all Bx bx

end
end My

end
section
set_option Elab.async false
set_option linter.all false
set_option maxRecDepth 100000
set_option maxHeartbeats 4000000

namespace My
open PySem L2

section
variable {P : Program} {w : World} {K : PySem.W.Frag} {mg : Str → Option Value} {base : Heap}
theorem itK_of {H : Hp} {R : It → Hp → Prop} {a : Addr} {xs : List V} (h : SqT K H a xs) (q : R (Itt K a) H) : itK K R (.ref a) H := ⟨a, rfl, ⟨xs, h⟩, q⟩
theorem row_size (wd : Str) (ns : List Int) : (rowT wd ns).length + 1 = ((wd :: ns.map numS).map (·.length)).sum + (wd :: ns.map numS).length := by
  unfold rowT
  rw [blank_eq]
  exact join_size (List.cons_ne_nil _ _)
/-- the numbers stand in a tuple, or in a list -/
noncomputable def NumsAt (H : Hp) (t : Addr) (ns : List Int) : Prop := H t = some (.tup (ns.map V.int)) ∨ H t = some (.lst (ns.map V.int))
noncomputable def sp_shown_row : Sp := sp2 fun x y H Q => ∃ wd t ns, x = .str wd ∧ y = .ref t ∧ NumsAt H t ns ∧ (rowT wd ns).length ≤ 900000 ∧ (∀ n ∈ ns, Sm n) ∧ ∀ H', Same H H' → Q (.str (rowT wd ns)) H'
theorem sc_shown_row : FnScope ["word", "numbers"] ["word", "numbers"] (defScope s_shown_row) := ⟨rfl, rfl, rfl, by decide +kernel, rfl, by decide +kernel, by decide +kernel⟩
theorem c_shown_row (B : Blt mg) (T_shown_row : TopFn K mg "shown_row" s_shown_row ["word", "numbers"]) : Callee P w K mg base "shown_row" 1 ["word", "numbers"] sp_shown_row := by
  refine T_shown_row.ok2 sc_shown_row fun f cdv A outer s H v1 v2 Q E hr h => ?_
  have nd := sc_shown_row.nd
  obtain ⟨wd, t, ns, rfl, rfl, ht, hL, hsm, k⟩ := h
  have hsz := row_size wd ns
  have hl : ns.length ≤ 900000 := by
    simp only [List.map_cons, List.sum_cons, List.length_cons, List.length_map] at hsz
    omega
  refine' go_body [some (.str wd), some (.ref t)] rfl ?hb ?hg
  case hb =>
   refine' pss_one ?zb
   case zb =>
    refine' ps_ret ?zc
    case zc =>
     refine' k_bm (K := K) ?zd ?ze ?zf ?zg ?zh ?zi ?zj
     case zd => exact rfl
     case ze => exact PySem.F.plainAttrs_str
     case zf => exact PySem.F.slot_str_join
     case zg => exact PySem.F.type_str_join
     case zh => exact (k_join (K := K) rfl)
     case zi => exact pe_str
     case zj =>
      refine' pa_consB ?zk ?zl
      case zk =>
       refine' pe_op ?zm ?zn ?zo
       case zm => exact op_cat
       case zn => exact (pe_lst (pa_consN (pv 0) pa_nil))
       case zo =>
        refine' pe_comp (LN := ["n"]) (FN := []) (fr := []) ?zp ?zq ?zr ?zs ?zt ?zu
        case zp => exact rfl
        case zq => exact (bk_of (by rfl))
        case zr => exact (k_pi_any (K := K) rfl (pv 1))
        case zs =>
         intro cl C fp pins s H
         exact (pg_name (i := 0) (show ((["n"] : List Str) ++ ([] : List Str)).Nodup by decide +kernel) rfl (Or.inl rfl))
        case zt =>
         intro cl C fp pins s H
         exact pts_nil
        case zu =>
         intro cl C fp pins s H
         exact (pe_callTy call_strI (by rfl) B.b_str bt_str (pa_consN (pv 0) pa_nil))
      case zl => exact pa_nil
  walk_at "rd"
  refine ⟨rfl, ?_⟩
  walk_at "rd"
  walk_at "mk"; intro p1 hp1
  have s1 := Same.new (o := .lst [V.str wd]) hp1
  have e1 : upd H p1 (.lst [V.str wd]) p1 = some (.lst [V.str wd]) := upd_same
  generalize upd H p1 (.lst [V.str wd]) = H1 at s1 e1
  have step : ∀ (Hy : Hp), Same H1 Hy → ∀ p2, Hy p2 = none → rCat (.ref p1) (.ref p2) (upd Hy p2 (.lst ((ns.map numS).map V.str))) fun v H3 => rJoin K (.str " ") [v] H3 Q := by
    intro Hy sy p2 hp2
    have s2 := Same.new (o := .lst ((ns.map numS).map V.str)) hp2
    have e2 : upd Hy p2 (.lst ((ns.map numS).map V.str)) p2 = some (.lst ((ns.map numS).map V.str)) := upd_same
    generalize upd Hy p2 (.lst ((ns.map numS).map V.str)) = H2 at s2 e2
    refine rd_cat ((sy.trans s2) _ _ e1) e2 (big_le (by simp only [List.length_map, List.length_cons, List.length_nil]; omega)) fun p3 hp3 => ?_
    have s3 := Same.new (o := .lst ((wd :: ns.map numS).map V.str)) hp3
    have e3 : upd H2 p3 (.lst ((wd :: ns.map numS).map V.str)) p3 = some (.lst ((wd :: ns.map numS).map V.str)) := upd_same
    exact rd_join (zs := wd :: ns.map numS) (SqL.of e3) (by decide) (by rw [← hsz]; omega) (k _ (((s1.trans sy).trans s2).trans s3))
  walk_at "rd"
  rcases ht with ht | ht
  · refine .inl (itK_of (SqT.of (s1 _ _ ht)) ?_)
    refine cw_tup (xs := ns.map V.int) (big_le (by rw [List.length_map]; omega)) (fun i ys σ Hy => (∃ x1, σ = [x1]) ∧ Hy = H1 ∧ ys = ((ns.take i).map numS).map V.str) ⟨⟨none, rfl⟩, rfl, rfl⟩ (fun i ys σ Hy _ ⟨_, e, _⟩ => by rw [e]; exact SqT.of (s1 _ _ ht)) ?_ ?_
    · rintro i x ys σ Hy hx hle hlt ⟨⟨x1, rfl⟩, rfl, rfl⟩
      rw [List.getElem?_map] at hx
      obtain ⟨n, en, rfl⟩ := Option.map_eq_some_iff.mp hx
      walk_at "rd"
      refine rd_strI (sm_log (hsm n (List.mem_of_getElem? en))) ?_
      refine ⟨hlt, by simpa using hle, ⟨_, rfl⟩, rfl, ?_⟩
      rw [List.take_add_one, en]
      simp
      rfl
    rintro ys σ Hy _ ⟨⟨x1, rfl⟩, rfl, rfl⟩ p2 hp2
    rw [List.length_map, List.take_length]
    exact step _ (Same.refl _) p2 hp2
  · refine .inr (ilK_of (SqL.of (s1 _ _ ht)) ?_)
    refine cw_list (xs := ns.map V.int) (big_le (by rw [List.length_map]; omega)) (fun i ys σ Hy => (∃ x1, σ = [x1]) ∧ Hy = H1 ∧ ys = ((ns.take i).map numS).map V.str) ⟨⟨none, rfl⟩, rfl, rfl⟩ (fun i ys σ Hy _ ⟨_, e, _⟩ => by rw [e]; exact SqL.of (s1 _ _ ht)) ?_ ?_
    · rintro i x ys σ Hy hx hle hlt ⟨⟨x1, rfl⟩, rfl, rfl⟩
      rw [List.getElem?_map] at hx
      obtain ⟨n, en, rfl⟩ := Option.map_eq_some_iff.mp hx
      walk_at "rd"
      refine rd_strI (sm_log (hsm n (List.mem_of_getElem? en))) ?_
      refine ⟨hlt, by simpa using hle, ⟨_, rfl⟩, rfl, ?_⟩
      rw [List.take_add_one, en]
      simp
      rfl
    rintro ys σ Hy _ ⟨⟨x1, rfl⟩, rfl, rfl⟩ p2 hp2
    rw [List.length_map, List.take_length]
    exact step _ (Same.refl _) p2 hp2
noncomputable def sp_shown_form : Sp := sp1 fun x H Q => ∃ f : FormI, Rep H (fD f) x ∧ FmOk f ∧ (fT f).length ≤ 900000 ∧ ∀ H', Same H H' → Q (.str (fT f)) H'
theorem sc_shown_form : FnScope ["form"] ["form"] (defScope s_shown_form) := ⟨rfl, rfl, rfl, by decide +kernel, rfl, by decide +kernel, by decide +kernel⟩
theorem c_shown_form (B : Blt mg) (T_shown_form : TopFn K mg "shown_form" s_shown_form ["form"]) : Callee P w K mg base "shown_form" 1 ["form"] sp_shown_form := by
  refine T_shown_form.ok1 sc_shown_form fun f cdv A outer s H v1 Q E hr h => ?_
  have nd := sc_shown_form.nd
  obtain ⟨⟨c, qs⟩, rx, ⟨hc, hqs⟩, hL, k⟩ := h
  dsimp only at hc hqs
  have hsz : (fT (c, qs)).length + 1 = ((numS c :: qs.map pairT).map (·.length)).sum + (numS c :: qs.map pairT).length := by
    unfold fT
    rw [semi_eq]
    exact join_size (List.cons_ne_nil _ _)
  have hl : qs.length ≤ 900000 := by
    simp only [List.map_cons, List.sum_cons, List.length_cons, List.length_map] at hsz
    omega
  have rx : Rep H (.tup [.int c, .tup (qs.map pairD)]) v1 := rx
  refine' go_body [some v1] rfl ?hb ?hg
  case hb =>
   refine' pss_one ?zv
   case zv =>
    refine' ps_ret ?zw
    case zw =>
     refine' k_bm (K := K) ?zx ?zy ?zz ?zba ?zbb ?zbc ?zbd
     case zx => exact rfl
     case zy => exact PySem.F.plainAttrs_str
     case zz => exact PySem.F.slot_str_join
     case zba => exact PySem.F.type_str_join
     case zbb => exact (k_join (K := K) rfl)
     case zbc => exact pe_str
     case zbd =>
      refine' pa_consB ?zbe ?zbf
      case zbe =>
       refine' pe_op ?zbg ?zbh ?zbi
       case zbg => exact op_cat
       case zbh => exact (pe_lst (pa_consC (pe_callTy call_strI (by rfl) B.b_str bt_str (pa_consS (pe_ix (k_ix (K := K) rfl) (pv 0) pe_int (fun _ _ => rfl)) pa_nil)) pa_nil))
       case zbi =>
        refine' pe_comp (LN := ["a", "w"]) (FN := []) (fr := []) ?zbj ?zbk ?zbl ?zbm ?zbn ?zbo
        case zbj => exact rfl
        case zbk => exact (bk_of (by rfl))
        case zbl => exact (k_pi_tup (K := K) rfl (pe_ix (k_ix (K := K) rfl) (pv 0) pe_int (fun _ _ => rfl)))
        case zbm =>
         intro cl C fp pins s H
         refine' k_pg_tup (K := K) (n := 2) ?zbp ?zbq ?zbr
         case zbp => exact rfl
         case zbq => exact rfl
         case zbr =>
          refine' pgs_cons ?zbs ?zbt
          case zbs => exact (pg_name (i := 0) (show ((["a", "w"] : List Str) ++ ([] : List Str)).Nodup by decide +kernel) rfl (Or.inl rfl))
          case zbt => exact (pgs_cons (pg_name (i := 1) (show ((["a", "w"] : List Str) ++ ([] : List Str)).Nodup by decide +kernel) rfl (Or.inl rfl)) pgs_nil)
        case zbn =>
         intro cl C fp pins s H
         exact pts_nil
        case zbo =>
         intro cl C fp pins s H
         exact (pe_fmt (by decide) (pv 0) (pv 1))
      case zbf => exact pa_nil
  walk_at "rd"
  refine ⟨rfl, ?_⟩
  walk_at "rd"
  refine rd_ixI (n := 0) rx rfl rfl ?_
  walk_at "rd"
  refine rd_strI (sm_log hc) ?_
  walk_at "rd"
  walk_at "mk"; intro p1 hp1
  have s1 := Same.new (o := .lst [V.str (numS c)]) hp1
  have e1 : upd H p1 (.lst [V.str (numS c)]) p1 = some (.lst [V.str (numS c)]) := upd_same
  walk_at "rd"
  change rIxA K v1 (V.int 1) (upd H p1 (.lst [V.str (numS c)])) _
  generalize upd H p1 (.lst [V.str (numS c)]) = H1 at s1 e1
  refine rd_ixR (n := 1) (rx.mono s1.ts) rfl rfl fun u ru => ?_
  refine itK_rep ru fun a xs e ha rxs => ?_
  subst e
  have hlen := rxs.length
  rw [List.length_map] at hlen
  refine cw_tup (xs := xs) (big_le (by omega)) (fun i ys σ Hy => (∃ x1 x2, σ = [x1, x2]) ∧ Hy = H1 ∧ ys = ((qs.take i).map pairT).map V.str) ⟨⟨none, none, rfl⟩, rfl, rfl⟩ (fun i ys σ Hy _ ⟨_, e, _⟩ => by rw [e]; exact SqT.of ha) ?_ ?_
  · rintro i x ys σ Hy hx hle hlt ⟨⟨x1, x2, rfl⟩, rfl, rfl⟩
    obtain ⟨d, ed, rd'⟩ := rxs.get' hx
    rw [List.getElem?_map] at ed
    obtain ⟨q, en, rfl⟩ := Option.map_eq_some_iff.mp ed
    obtain ⟨sa, sb⟩ := hqs q (List.mem_of_getElem? en)
    obtain ⟨t2, zs, rfl, ht2, rzs⟩ := rep_tup_inv rd'
    obtain rfl : zs = [.int q.1, .int q.2] := by
      rw [Reps] at rzs
      obtain ⟨v, r, rfl, h1, h2⟩ := rzs
      rw [Reps] at h2
      obtain ⟨v', r', rfl, h1', h2'⟩ := h2
      rw [Reps] at h2'
      rw [Rep] at h1 h1'
      rw [h1, h1', h2']
    refine rd_gtup ht2 rfl ?_
    walk_at "rd"
    refine ⟨sm_log sa, Nat.le_trans (sm_len sa) (by decide), ?_⟩
    walk_at "rd"
    refine ⟨sm_log sb, Nat.le_trans (sm_len sb) (by decide), ?_⟩
    refine ⟨hlt, by simpa using hle, ⟨_, _, rfl⟩, rfl, ?_⟩
    rw [List.take_add_one, en]
    simp
    rfl
  rintro ys σ Hy _ ⟨⟨x1, x2, rfl⟩, rfl, rfl⟩ p2 hp2
  rw [← hlen, List.take_length]
  have s2 := Same.new (o := .lst ((qs.map pairT).map V.str)) hp2
  have e2 : upd Hy p2 (.lst ((qs.map pairT).map V.str)) p2 = some (.lst ((qs.map pairT).map V.str)) := upd_same
  generalize upd Hy p2 (.lst ((qs.map pairT).map V.str)) = H2 at s2 e2
  refine rd_cat (s2 _ _ e1) e2 (big_le (by simp only [List.length_map, List.length_cons, List.length_nil]; omega)) fun p3 hp3 => ?_
  have s3 := Same.new (o := .lst ((numS c :: qs.map pairT).map V.str)) hp3
  have e3 : upd H2 p3 (.lst ((numS c :: qs.map pairT).map V.str)) p3 = some (.lst ((numS c :: qs.map pairT).map V.str)) := upd_same
  walk_at "rd"
  exact rd_join (zs := numS c :: qs.map pairT) (SqL.of e3) (by decide) (by rw [← hsz]; omega) (k _ ((s1.trans s2).trans s3))

end
end My

end
section
set_option Elab.async false
set_option linter.all false
set_option maxRecDepth 100000
set_option maxHeartbeats 4000000

namespace My
open PySem L2

section
variable {P : Program} {w : World} {K : PySem.W.Frag} {mg : Str → Option Value} {base : Heap}
theorem cs_join0 : ∀ (zs : List Str), cs (Str.join (Str.ofString "") zs) = (zs.map cs).flatten
  | [] => rfl
  | [x] => by simp [Str.join]
  | x :: y :: r => by
    show cs (x ++ Str.ofString "" ++ Str.join (Str.ofString "") (y :: r)) = _
    rw [cs_app, cs_app, cs_join0 (y :: r), show cs (Str.ofString "") = [] from by decide, List.append_nil]
    rfl
theorem jn_all {c : Nat} : ∀ (ps : List (List Nat)) (x : List Nat), jn c (x :: ps) = x ++ (ps.map (c :: ·)).flatten
  | [], x => (List.append_nil x).symm
  | p :: ps, x => by
    show x ++ c :: jn c (p :: ps) = _
    rw [jn_all ps p]
    rfl
noncomputable def pairW (q : Int × Int) : Str := Str.ofString ";" ++ numS q.1 ++ Str.ofString ":" ++ numS q.2
theorem form_write (c : Int) (qs : List (Int × Int)) : numS c ++ Str.join (Str.ofString "") (qs.map pairW) = fT (c, qs) := by
  apply cs_inj
  unfold fT
  rw [cs_app, cs_join0, semi_eq, cs_join, List.map_cons, jn_all]
  congr 2
  rw [List.map_map, List.map_map, List.map_map]
  refine List.map_congr_left fun q _ => ?_
  show cs (pairW q) = 59 :: cs (pairT q)
  unfold pairW pairT
  rw [cs_app, cs_app, cs_app, cs_app, cs_app, colon_eq, show cs (Str.ofString ";") = [59] from by decide, show cs (Str.ofString ":") = [58] from by decide]
  simp only [List.append_assoc]
  rfl
theorem sum_le {m : Nat} : ∀ {l : List Str}, (∀ x ∈ l, x.length ≤ m) → (l.map (·.length)).sum ≤ m * l.length
  | [], _ => Nat.le_refl _
  | x :: l, h => by
    have h1 := h x List.mem_cons_self
    have h2 := sum_le fun y hy => h y (List.mem_cons_of_mem x hy)
    rw [List.map_cons, List.sum_cons, List.length_cons, Nat.mul_succ]
    omega
theorem pair_len {q : Int × Int} (h : N60 q.1 ∧ N60 q.2) : (pairT q).length ≤ 125 := by
  unfold pairT
  have h1 := h.1.len
  have h2 := h.2.len
  rw [len_app, len_app, colon_eq]
  show _ + 1 + _ ≤ 125
  omega
theorem pairW_len {q : Int × Int} (h : N60 q.1 ∧ N60 q.2) : (pairW q).length ≤ 126 := by
  unfold pairW
  have h1 := h.1.len
  have h2 := h.2.len
  rw [len_app, len_app, len_app]
  show 1 + _ + 1 + _ ≤ 126
  omega
theorem form_len {f : FormI} (h : FB f) : (fT f).length ≤ 440 := by
  have hsz := join_size (c := 59) (ps := numS f.1 :: f.2.map pairT) (List.cons_ne_nil _ _)
  rw [← semi_eq] at hsz
  have hs := sum_le (m := 125) (l := f.2.map pairT) fun x hx => by
    obtain ⟨q, hq, rfl⟩ := List.mem_map.mp hx
    exact pair_len (h.all q hq)
  have h1 := h.n.len
  have h2 := h.few
  rw [List.length_map] at hs
  rw [List.map_cons, List.sum_cons, List.length_cons, List.length_map] at hsz
  unfold fT
  omega
theorem FB.ok {f : FormI} (h : FB f) : FmOk f := ⟨h.n.sm, fun q hq => ⟨(h.all q hq).1.sm, (h.all q hq).2.sm⟩⟩
theorem forms_len {w : Str} {a b : Int} {fs : List FormI} (hw : w.length ≤ 10) (ha : N60 a) (hb : N60 b) (h : LB fs) : (formsT w a b fs).length ≤ 1910 := by
  rw [forms_flat]
  have hsz := join_size (c := 32) (ps := w :: numS a :: numS b :: fs.map fT) (List.cons_ne_nil _ _)
  rw [← blank_eq] at hsz
  have hs := sum_le (m := 440) (l := fs.map fT) fun x hx => by
    obtain ⟨q, hq, rfl⟩ := List.mem_map.mp hx
    exact form_len (h.2 q hq)
  have h1 := ha.len
  have h2 := hb.len
  have h3 := h.1
  rw [List.length_map] at hs
  rw [List.map_cons, List.sum_cons, List.map_cons, List.sum_cons, List.map_cons, List.sum_cons, List.length_cons, List.length_cons, List.length_cons, List.length_map] at hsz
  omega
theorem forms_nil (w : Str) (a b : Int) : formsT w a b [] = w ++ blank ++ numS a ++ blank ++ numS b := by
  rw [forms_flat]
  apply cs_inj
  rw [blank_eq, cs_join, List.map_cons, jn_all, cs_app, cs_app, cs_app, cs_app]
  simp only [List.map_cons, List.map_nil, List.flatten_cons, List.flatten_nil, List.append_nil, List.append_assoc]
  rfl
theorem forms_snoc (w : Str) (a b : Int) (fs : List FormI) (g : FormI) : formsT w a b (fs ++ [g]) = formsT w a b fs ++ blank ++ fT g := by
  rw [forms_flat, forms_flat, List.map_append, ← List.cons_append, ← List.cons_append, ← List.cons_append]
  exact join_snoc blank (List.cons_ne_nil _ _)
noncomputable def sp_fwritten : Sp := sp1 fun x H Q => ∃ f : FormI, Rep H (fD f) x ∧ FB f ∧ ∀ H', Same H H' → Q (.str (fT f)) H'
theorem sc__law_form_written : FnScope ["form"] ["form"] (defScope s__law_form_written) := ⟨rfl, rfl, rfl, by decide +kernel, rfl, by decide +kernel, by decide +kernel⟩
theorem c__law_form_written (B : Blt mg) (T__law_form_written : TopFn K mg "_law_form_written" s__law_form_written ["form"]) : Callee P w K mg base "_law_form_written" 1 ["form"] sp_fwritten := by
  refine T__law_form_written.ok1 sc__law_form_written fun f cdv A outer s H v1 Q E hr h => ?_
  have nd := sc__law_form_written.nd
  obtain ⟨⟨c, qs⟩, rx, hF, k⟩ := h
  have hc : N60 c := hF.n
  have hqs : ∀ q ∈ qs, N60 q.1 ∧ N60 q.2 := hF.all
  have hl : qs.length ≤ 3 := hF.few
  have rx : Rep H (.tup [.int c, .tup (qs.map pairD)]) v1 := rx
  refine' go_body [some v1] rfl ?hb ?hg
  case hb =>
   refine' pss_one ?zb
   case zb =>
    refine' ps_ret ?zc
    case zc =>
     refine' pe_op ?zd ?ze ?zf
     case zd => exact op_addS
     case ze => exact (pe_callTy call_strI (by rfl) B.b_str bt_str (pa_consS (pe_ix (k_ix (K := K) rfl) (pv 0) pe_int (fun _ _ => rfl)) pa_nil))
     case zf =>
      refine' k_bm (K := K) ?zg ?zh ?zi ?zj ?zk ?zl ?zm
      case zg => exact rfl
      case zh => exact PySem.F.plainAttrs_str
      case zi => exact PySem.F.slot_str_join
      case zj => exact PySem.F.type_str_join
      case zk => exact (k_join (K := K) rfl)
      case zl => exact pe_str
      case zm =>
       refine' pa_consM ?zn ?zo
       case zn =>
        refine' pe_comp (LN := ["a", "w"]) (FN := []) (fr := []) ?zp ?zq ?zr ?zs ?zt ?zu
        case zp => exact rfl
        case zq => exact (bk_of (by rfl))
        case zr => exact (k_pi_tup (K := K) rfl (pe_ix (k_ix (K := K) rfl) (pv 0) pe_int (fun _ _ => rfl)))
        case zs =>
         intro cl C fp pins s H
         refine' k_pg_tup (K := K) (n := 2) ?zv ?zw ?zx
         case zv => exact rfl
         case zw => exact rfl
         case zx =>
          refine' pgs_cons ?zy ?zz
          case zy => exact (pg_name (i := 0) (show ((["a", "w"] : List Str) ++ ([] : List Str)).Nodup by decide +kernel) rfl (Or.inl rfl))
          case zz => exact (pgs_cons (pg_name (i := 1) (show ((["a", "w"] : List Str) ++ ([] : List Str)).Nodup by decide +kernel) rfl (Or.inl rfl)) pgs_nil)
        case zt =>
         intro cl C fp pins s H
         exact pts_nil
        case zu =>
         intro cl C fp pins s H
         refine' pe_op ?zba ?zbb ?zbc
         case zba => exact op_addS
         case zbb => exact (pe_op op_addS (pe_op op_addS pe_str (pe_callTy call_strI (by rfl) B.b_str bt_str (pa_consN (pv 0) pa_nil))) pe_str)
         case zbc => exact (pe_callTy call_strI (by rfl) B.b_str bt_str (pa_consN (pv 1) pa_nil))
       case zo => exact pa_nil
  walk_at "rd"
  refine rd_ixI (n := 0) rx rfl rfl ?_
  walk_at "rd"
  refine rd_strI (sm_log hc.sm) ?_
  walk_at "rd"
  refine ⟨rfl, ?_⟩
  walk_at "rd"
  refine rd_ixR (n := 1) rx rfl rfl fun u ru => ?_
  refine itK_rep ru fun a xs e ha rxs => ?_
  subst e
  have hlen := rxs.length
  rw [List.length_map] at hlen
  refine cw_tup (xs := xs) (big_le (by omega)) (fun i ys σ Hy => (∃ x1 x2, σ = [x1, x2]) ∧ Hy = H ∧ ys = ((qs.take i).map pairW).map V.str) ⟨⟨none, none, rfl⟩, rfl, rfl⟩ (fun i ys σ Hy _ ⟨_, e, _⟩ => by rw [e]; exact SqT.of ha) ?_ ?_
  · rintro i x ys σ Hy hx hle hlt ⟨⟨x1, x2, rfl⟩, rfl, rfl⟩
    obtain ⟨d, ed, rd'⟩ := rxs.get' hx
    rw [List.getElem?_map] at ed
    obtain ⟨q, en, rfl⟩ := Option.map_eq_some_iff.mp ed
    obtain ⟨sa, sb⟩ := hqs q (List.mem_of_getElem? en)
    have la := sa.len
    have lb := sb.len
    obtain ⟨t2, zs, rfl, ht2, rzs⟩ := rep_tup_inv rd'
    obtain rfl : zs = [.int q.1, .int q.2] := by
      rw [Reps] at rzs
      obtain ⟨v, r, rfl, h1, h2⟩ := rzs
      rw [Reps] at h2
      obtain ⟨v', r', rfl, h1', h2'⟩ := h2
      rw [Reps] at h2'
      rw [Rep] at h1 h1'
      rw [h1, h1', h2']
    refine rd_gtup ht2 rfl ?_
    walk_at "rd"
    refine rd_strI (sm_log sa.sm) ?_
    refine rd_addS (big_le (show 1 + (numS q.1).length ≤ _ by omega)) ?_
    walk_at "rd"
    refine rd_addS (big_le (by rw [len_app]; show 1 + (numS q.1).length + 1 ≤ _; omega)) ?_
    walk_at "rd"
    refine rd_strI (sm_log sb.sm) ?_
    refine rd_addS (big_le (by rw [len_app, len_app]; show 1 + (numS q.1).length + 1 + (numS q.2).length ≤ _; omega)) ?_
    refine ⟨hlt, by simpa using hle, ⟨_, _, rfl⟩, rfl, ?_⟩
    rw [List.take_add_one, en]
    simp
    rfl
  rintro ys σ Hy _ ⟨⟨x1, x2, rfl⟩, rfl, rfl⟩ p2 hp2
  rw [← hlen, List.take_length]
  have s2 := Same.new (o := .lst ((qs.map pairW).map V.str)) hp2
  have hs := sum_le (m := 126) (l := qs.map pairW) fun x hx => by
    obtain ⟨q, hq, rfl⟩ := List.mem_map.mp hx
    exact pairW_len (hqs q hq)
  rw [List.length_map] at hs
  walk_at "rd"
  refine rd_join (zs := qs.map pairW) (SqL.of upd_same) (by decide) (by rw [List.length_map]; omega) ?_
  have hjl : (Str.join (Str.ofString "") (qs.map pairW)).length ≤ 126 * 3 := by
    rw [← cs_len, cs_join0, List.length_flatten, List.map_map, List.map_map]
    rw [List.map_map] at hs
    refine Nat.le_trans (Nat.le_of_eq ?_) (Nat.le_trans hs (Nat.mul_le_mul_left _ hl))
    congr 1
  refine rd_addS (big_le (by have := hc.len; show (numS c).length + _ ≤ _; omega)) ?_
  have e := form_write c qs
  rw [show (toString c : Str) ++ Str.join (Str.ofString "") (qs.map pairW) = fT (c, qs) from e]
  exact k _ s2

end
end My

end
section
set_option Elab.async false
set_option linter.all false
set_option maxRecDepth 100000
set_option maxHeartbeats 4000000

namespace My
open PySem L2

section
variable {P : Program} {w : World} {K : PySem.W.Frag} {mg : Str → Option Value} {base : Heap}
theorem mem_sum : ∀ {l : List Str} {x : Str}, x ∈ l → x.length ≤ (l.map (·.length)).sum
  | a :: l, x, h => by
    rw [List.map_cons, List.sum_cons]
    rcases List.mem_cons.mp h with rfl | h
    · omega
    · have := mem_sum h
      omega
theorem forms_size (wd : Str) (a b : Int) (fs : List FormI) : (formsT wd a b fs).length + 1 = ((rowT wd [a, b] :: fs.map fT).map (·.length)).sum + (rowT wd [a, b] :: fs.map fT).length := by
  unfold formsT
  rw [blank_eq]
  exact join_size (List.cons_ne_nil _ _)
noncomputable def sp_shown_forms : Sp := sp4 fun x1 x2 x3 x4 H Q => ∃ wd a b fs, x1 = .str wd ∧ x2 = .int a ∧ x3 = .int b ∧ Rep H (formsD fs) x4 ∧ Sm a ∧ Sm b ∧ (∀ f ∈ fs, FmOk f) ∧ (formsT wd a b fs).length ≤ 900000 ∧ ∀ H', Same H H' → Q (.str (formsT wd a b fs)) H'
theorem sc_shown_forms : FnScope ["word", "one", "other", "forms"] ["word", "one", "other", "forms"] (defScope s_shown_forms) := ⟨rfl, rfl, rfl, by decide +kernel, rfl, by decide +kernel, by decide +kernel⟩
theorem c_shown_forms (B : Blt mg) (T_shown_forms : TopFn K mg "shown_forms" s_shown_forms ["word", "one", "other", "forms"]) (Cshown_row : Callee P w K mg base "shown_row" 1 ["word", "numbers"] sp_shown_row) (Cshown_form : Callee P w K mg base "shown_form" 1 ["form"] sp_shown_form) : Callee P w K mg base "shown_forms" 2 ["word", "one", "other", "forms"] sp_shown_forms := by
  refine T_shown_forms.ok4 sc_shown_forms fun f cdv A outer s H v1 v2 v3 v4 Q E hr h => ?_
  have nd := sc_shown_forms.nd
  obtain ⟨wd, a, b, fs, rfl, rfl, rfl, rx, sa, sb, hfs, hL, k⟩ := h
  have hsz := forms_size wd a b fs
  have hmem : ∀ x ∈ rowT wd [a, b] :: fs.map fT, x.length ≤ 900000 := fun x hx => by
    have := mem_sum hx
    simp only [List.length_cons] at hsz
    omega
  have hl : fs.length ≤ 900000 := by
    simp only [List.length_cons, List.length_map] at hsz
    omega
  refine' go_body [some (.str wd), some (.int a), some (.int b), some v4] rfl ?hb ?hg
  case hb =>
   refine' pss_one ?zb
   case zb =>
    refine' ps_ret ?zc
    case zc =>
     refine' k_bm (K := K) ?zd ?ze ?zf ?zg ?zh ?zi ?zj
     case zd => exact rfl
     case ze => exact PySem.F.plainAttrs_str
     case zf => exact PySem.F.slot_str_join
     case zg => exact PySem.F.type_str_join
     case zh => exact (k_join (K := K) rfl)
     case zi => exact pe_str
     case zj =>
      refine' pa_consB ?zk ?zl
      case zk =>
       refine' pe_op ?zm ?zn ?zo
       case zm => exact op_cat
       case zn =>
        refine' pe_lst ?zp
        case zp =>
         refine' pa_consC ?zq ?zr
         case zq =>
          refine' pe_fn ?zs ?zt ?zu ?zv
          case zs => exact Cshown_row
          case zt => exact (hr.mono (by first | decide | omega))
          case zu => exact (by rfl)
          case zv => exact (pa_consN (pv 0) (pa_consT (pe_tup (pa_consN (pv 1) (pa_consN (pv 2) pa_nil))) pa_nil))
         case zr => exact pa_nil
       case zo =>
        refine' pe_comp (LN := ["form"]) (FN := []) (fr := []) ?zw ?zx ?zy ?zz ?zba ?zbb
        case zw => exact rfl
        case zx => exact (bk_of (by rfl))
        case zy => exact (k_pi_tup (K := K) rfl (pv 3))
        case zz =>
         intro cl C fp pins s H
         exact (pg_name (i := 0) (show ((["form"] : List Str) ++ ([] : List Str)).Nodup by decide +kernel) rfl (Or.inl rfl))
        case zba =>
         intro cl C fp pins s H
         exact pts_nil
        case zbb =>
         intro cl C fp pins s H
         exact (pe_fn Cshown_form (hr.mono (by first | decide | omega)) (by rfl) (pa_consN (pv 0) pa_nil))
      case zl => exact pa_nil
  walk_at "rd"
  refine ⟨rfl, ?_⟩
  walk_at "rd"
  walk_at "mk"; intro p0 hp0
  have s0 := Same.new (o := .tup [V.int a, V.int b]) hp0
  have e0 : upd H p0 (.tup [V.int a, V.int b]) p0 = some (.tup [V.int a, V.int b]) := upd_same
  generalize upd H p0 (.tup [V.int a, V.int b]) = H0 at s0 e0
  walk_at "rd"
  refine use2 ⟨wd, p0, [a, b], rfl, rfl, .inl e0, hmem _ List.mem_cons_self, fun n hn => ?_, fun H1 s1 => ?_⟩
  · simp only [List.mem_cons, List.not_mem_nil, or_false] at hn
    rcases hn with rfl | rfl
    · exact sa
    · exact sb
  walk_at "rd"
  walk_at "mk"; intro p1 hp1
  have s2 := Same.new (o := .lst [V.str (rowT wd [a, b])]) hp1
  have e1 : upd H1 p1 (.lst [V.str (rowT wd [a, b])]) p1 = some (.lst [V.str (rowT wd [a, b])]) := upd_same
  generalize upd H1 p1 (.lst [V.str (rowT wd [a, b])]) = H2 at s2 e1
  have s02 := (s0.trans s1).trans s2
  walk_at "rd"
  have rx2 : Rep H2 (.tup (fs.map fD)) v4 := rx.mono s02.ts
  refine itK_rep rx2 fun at_ xs e ha rxs => ?_
  subst e
  have hlen := rxs.length
  rw [List.length_map] at hlen
  refine cw_tup (xs := xs) (big_le (by omega)) (fun i ys σ Hy => (∃ x1, σ = [x1]) ∧ Same H2 Hy ∧ ys = ((fs.take i).map fT).map V.str) ⟨⟨none, rfl⟩, Same.refl _, rfl⟩ (fun i ys σ Hy _ ⟨_, s3, _⟩ => SqT.of (s3 _ _ ha)) ?_ ?_
  · rintro i x ys σ Hy hx hle hlt ⟨⟨x1, rfl⟩, s3, rfl⟩
    obtain ⟨d, ed, rd'⟩ := rxs.get' hx
    rw [List.getElem?_map] at ed
    obtain ⟨g, en, rfl⟩ := Option.map_eq_some_iff.mp ed
    have gm := List.mem_of_getElem? en
    walk_at "rd"
    refine use1 ⟨g, rd'.mono s3.ts, hfs g gm, hmem _ (List.mem_cons_of_mem _ (List.mem_map.mpr ⟨g, gm, rfl⟩)), fun H4 s4 => ?_⟩
    refine ⟨hlt, by simpa using hle, ⟨_, rfl⟩, s3.trans s4, ?_⟩
    rw [List.take_add_one, en]
    simp
  rintro ys σ Hy _ ⟨⟨x1, rfl⟩, s3, rfl⟩ p2 hp2
  rw [← hlen, List.take_length]
  have s4 := Same.new (o := .lst ((fs.map fT).map V.str)) hp2
  have e4 : upd Hy p2 (.lst ((fs.map fT).map V.str)) p2 = some (.lst ((fs.map fT).map V.str)) := upd_same
  generalize upd Hy p2 (.lst ((fs.map fT).map V.str)) = H4 at s4 e4
  refine rd_cat ((s3.trans s4) _ _ e1) e4 (big_le (by simp only [List.length_map, List.length_cons, List.length_nil]; omega)) fun p3 hp3 => ?_
  have s5 := Same.new (o := .lst ((rowT wd [a, b] :: fs.map fT).map V.str)) hp3
  have e5 : upd H4 p3 (.lst ((rowT wd [a, b] :: fs.map fT).map V.str)) p3 = some (.lst ((rowT wd [a, b] :: fs.map fT).map V.str)) := upd_same
  walk_at "rd"
  exact rd_join (zs := rowT wd [a, b] :: fs.map fT) (SqL.of e5) (by decide) (by rw [← hsz]; omega) (k _ (((s02.trans s3).trans s4).trans s5))

end
end My

end
section
set_option Elab.async false
set_option linter.all false
set_option maxRecDepth 100000
set_option maxHeartbeats 4000000

namespace My
open PySem L2

section
variable {P : Program} {w : World} {K : PySem.W.Frag} {mg : Str → Option Value} {base : Heap}
theorem rd_extend {l b : Addr} {xs zs : List V} {H : Hp} {Q : VK} (h1 : H l = some (.lst xs)) (h2 : H b = some (.lst zs)) (hz : xs.length + zs.length ≤ PySem.sizeLine) (q : Q .non (upd H l (.lst (xs ++ zs)))) : rExtend (.ref l) [.ref b] H Q := ⟨l, b, xs, zs, rfl, rfl, h1, h2, hz, q⟩
/-- a stand whose text is asked for -/
structure StOk (st : StandI) : Prop where
  many : Sm st.1
  fr : ∀ f ∈ st.2.1, Sm f.1 ∧ Sm f.2.1 ∧ ∀ g ∈ f.2.2, FmOk g
  nums : ∀ n ∈ st.2.2.2.1, Sm n
  eds : ∀ e ∈ st.2.2.2.2, Sm e.1 ∧ Sm e.2.2 ∧ ∀ g ∈ e.2.1, FmOk g
noncomputable def sp_shown_stand : Sp := sp1 fun x H Q => ∃ st, StandAt H st x ∧ StOk st ∧ ((standL st).map (·.length)).sum + (standL st).length ≤ 900001 ∧ ∀ p H', H' p = some (.lst ((standL st).map V.str)) → Same H H' → Q (.ref p) H'
theorem sc_shown_stand : FnScope ["stand", "deed", "lines"] ["stand"] (defScope s_shown_stand) := ⟨rfl, rfl, rfl, by decide +kernel, rfl, by decide +kernel, by decide +kernel⟩
theorem c_shown_stand (B : Blt mg) (T_shown_stand : TopFn K mg "shown_stand" s_shown_stand ["stand"]) (Cshown_row : Callee P w K mg base "shown_row" 1 ["word", "numbers"] sp_shown_row) (Cshown_forms : Callee P w K mg base "shown_forms" 2 ["word", "one", "other", "forms"] sp_shown_forms) : Callee P w K mg base "shown_stand" 3 ["stand"] sp_shown_stand := by
  refine T_shown_stand.ok1 sc_shown_stand fun f cdv A outer s H v1 Q E hr h => ?_
  have nd := sc_shown_stand.nd
  obtain ⟨⟨many, paper, wd, ns, es⟩, ⟨t, l, ys, vd, rfl, ht, hl, ry, rd⟩, ok, hL, k⟩ := h
  obtain ⟨om, ofr, onu, oed⟩ := ok
  dsimp only at ht ry rd om ofr onu oed
  have hmem : ∀ x ∈ standL (many, paper, wd, ns, es), x.length ≤ 900000 := fun x hx => by
    have := mem_sum hx
    have : 0 < (standL (many, paper, wd, ns, es)).length := List.length_pos_iff.mpr (List.ne_nil_of_mem hx)
    omega
  have hyl := ry.length
  rw [List.length_map] at hyl
  have hsl : (standL (many, paper, wd, ns, es)).length = paper.length + es.length + 2 := by
    simp only [standL, List.length_cons, List.length_append, List.length_map]
    omega
  refine' go_body [some (.ref t), none, none] rfl ?hb ?hg
  case hb =>
   refine' pss_cons ?zb ?zc
   case zb => exact (ps_setS (i := 1) nd rfl (Or.inl rfl) (pe_ix (k_ix (K := K) rfl) (pv 0) pe_int (fun _ _ => rfl)))
   case zc =>
    refine' pss_cons ?zd ?ze
    case zd =>
     refine' ps_setL (i := 2) ?zf ?zg ?zh ?zi
     case zf => exact nd
     case zg => exact rfl
     case zh => exact (Or.inl rfl)
     case zi =>
      refine' pe_lst ?zj
      case zj =>
       refine' pa_consC ?zk ?zl
       case zk =>
        refine' pe_fn ?zm ?zn ?zo ?zp
        case zm => exact Cshown_row
        case zn => exact (hr.mono (by first | decide | omega))
        case zo => exact (by rfl)
        case zp => exact (pa_consK pe_str (pa_consS (pe_slice (k_slW (K := K) rfl) (pv 0) po_none (po_some pe_int)) pa_nil))
       case zl => exact pa_nil
    case ze =>
     refine' pss_cons ?zq ?zr
     case zq =>
      refine' ps_expr ?zs
      case zs =>
       refine' k_bm (K := K) ?zt ?zu ?zv ?zw ?zx ?zy ?zz
       case zt => exact rfl
       case zu => exact PySem.F.plainAttrs_list
       case zv => exact PySem.F.slot_list_extend
       case zw => exact PySem.F.type_list_extend
       case zx => exact mt_extend
       case zy => exact (pv 2)
       case zz =>
        refine' pa_consM ?zba ?zbb
        case zba =>
         refine' pe_comp (LN := ["frame"]) (FN := []) (fr := []) ?zbc ?zbd ?zbe ?zbf ?zbg ?zbh
         case zbc => exact rfl
         case zbd => exact (bk_of (by rfl))
         case zbe => exact (k_pi_list (K := K) rfl (pe_ix (k_ix (K := K) rfl) (pv 0) pe_int (fun _ _ => rfl)))
         case zbf =>
          intro cl C fp pins s H
          exact (pg_name (i := 0) (show ((["frame"] : List Str) ++ ([] : List Str)).Nodup by decide +kernel) rfl (Or.inl rfl))
         case zbg =>
          intro cl C fp pins s H
          exact pts_nil
         case zbh =>
          intro cl C fp pins s H
          refine' pe_fn ?zbi ?zbj ?zbk ?zbl
          case zbi => exact Cshown_forms
          case zbj => exact (hr.mono (by first | decide | omega))
          case zbk => exact (by rfl)
          case zbl =>
           refine' pa_consK ?zbm ?zbn
           case zbm => exact pe_str
           case zbn =>
            refine' pa_consS ?zbo ?zbp
            case zbo => exact (pe_ix (k_ix (K := K) rfl) (pv 0) pe_int (fun _ _ => rfl))
            case zbp => exact (pa_consS (pe_ix (k_ix (K := K) rfl) (pv 0) pe_int (fun _ _ => rfl)) (pa_consS (pe_ix (k_ix (K := K) rfl) (pv 0) pe_int (fun _ _ => rfl)) pa_nil))
        case zbb => exact pa_nil
     case zr =>
      refine' pss_cons ?zbq ?zbr
      case zbq =>
       refine' ps_expr ?zbs
       case zbs =>
        refine' k_bm (K := K) ?zbt ?zbu ?zbv ?zbw ?zbx ?zby ?zbz
        case zbt => exact rfl
        case zbu => exact PySem.F.plainAttrs_list
        case zbv => exact PySem.F.slot_list_append
        case zbw => exact PySem.F.type_list_append
        case zbx => exact mt_append
        case zby => exact (pv 2)
        case zbz =>
         refine' pa_consC ?zca ?zcb
         case zca =>
          refine' pe_fn ?zcc ?zcd ?zce ?zcf
          case zcc => exact Cshown_row
          case zcd => exact (hr.mono (by first | decide | omega))
          case zce => exact (by rfl)
          case zcf =>
           refine' pa_consS ?zcg ?zch
           case zcg => exact (pe_ix (k_ix (K := K) rfl) (pv 1) pe_int (fun _ _ => rfl))
           case zch =>
            refine' pa_consM ?zci ?zcj
            case zci =>
             refine' pe_comp (LN := ["part"]) (FN := []) (fr := []) ?zck ?zcl ?zcm ?zcn ?zco ?zcp
             case zck => exact rfl
             case zcl => exact (bk_of (by rfl))
             case zcm => exact (k_pi_tup (K := K) rfl (pe_slice (k_slW (K := K) rfl) (pv 1) (po_some pe_int) po_none))
             case zcn =>
              intro cl C fp pins s H
              exact (pg_name (i := 0) (show ((["part"] : List Str) ++ ([] : List Str)).Nodup by decide +kernel) rfl (Or.inl rfl))
             case zco =>
              intro cl C fp pins s H
              refine' pts_one ?zcq
              case zcq =>
               refine' pt_not ?zcr
               case zcr =>
                refine' pt_val ?zcs
                case zcs =>
                 refine' pe_callB ?zct ?zcu ?zcv ?zcw ?zcx
                 case zct => exact call_isi
                 case zcu => exact (by rfl)
                 case zcv => exact B.b_isinstance
                 case zcw => exact bt_isinstance
                 case zcx => exact (pa_consN (pv 0) (pa_consN (pe_bltn (v := .ty "tuple") (by rfl) B.b_tuple bt_tuple rfl) pa_nil))
             case zcp =>
              intro cl C fp pins s H
              exact (pv 0)
            case zcj => exact pa_nil
         case zcb => exact pa_nil
      case zbr =>
       refine' pss_cons ?zcy ?zcz
       case zcy =>
        refine' ps_expr ?zda
        case zda =>
         refine' k_bm (K := K) ?zdb ?zdc ?zdd ?zde ?zdf ?zdg ?zdh
         case zdb => exact rfl
         case zdc => exact PySem.F.plainAttrs_list
         case zdd => exact PySem.F.slot_list_extend
         case zde => exact PySem.F.type_list_extend
         case zdf => exact mt_extend
         case zdg => exact (pv 2)
         case zdh =>
          refine' pa_consM ?zdi ?zdj
          case zdi =>
           refine' pe_comp (LN := ["part"]) (FN := []) (fr := []) ?zdk ?zdl ?zdm ?zdn ?zdo ?zdp
           case zdk => exact rfl
           case zdl => exact (bk_of (by rfl))
           case zdm => exact (k_pi_tup (K := K) rfl (pe_slice (k_slW (K := K) rfl) (pv 1) (po_some pe_int) po_none))
           case zdn =>
            intro cl C fp pins s H
            exact (pg_name (i := 0) (show ((["part"] : List Str) ++ ([] : List Str)).Nodup by decide +kernel) rfl (Or.inl rfl))
           case zdo =>
            intro cl C fp pins s H
            refine' pts_one ?zdq
            case zdq =>
             refine' pt_val ?zdr
             case zdr =>
              refine' pe_callB ?zds ?zdt ?zdu ?zdv ?zdw
              case zds => exact call_isi
              case zdt => exact (by rfl)
              case zdu => exact B.b_isinstance
              case zdv => exact bt_isinstance
              case zdw => exact (pa_consN (pv 0) (pa_consN (pe_bltn (v := .ty "tuple") (by rfl) B.b_tuple bt_tuple rfl) pa_nil))
           case zdp =>
            intro cl C fp pins s H
            refine' pe_fn ?zdx ?zdy ?zdz ?zea
            case zdx => exact Cshown_forms
            case zdy => exact (hr.mono (by first | decide | omega))
            case zdz => exact (by rfl)
            case zea =>
             refine' pa_consK ?zeb ?zec
             case zeb => exact pe_str
             case zec =>
              refine' pa_consS ?zed ?zee
              case zed => exact (pe_ix (k_ix (K := K) rfl) (pv 0) pe_int (fun _ _ => rfl))
              case zee => exact (pa_consS (pe_ix (k_ix (K := K) rfl) (pv 0) pe_int (fun _ _ => rfl)) (pa_consS (pe_ix (k_ix (K := K) rfl) (pv 0) pe_int (fun _ _ => rfl)) pa_nil))
          case zdj => exact pa_nil
       case zcz => exact (pss_one (ps_ret (pv 2)))
  walk_at "rd"
  refine rd_ixaT ht (v := vd) (atI_at (n := 2) rfl rfl) ?_
  walk_at "rd"
  refine rd_slW ht fun p1 H1 hp1 s1 => ?_
  walk_at "rd"
  refine use2 ⟨standW, p1, [many], rfl, rfl, .inl hp1, hmem _ List.mem_cons_self, fun n hn => by rw [List.mem_singleton.mp hn]; exact om, fun H2 s2 => ?_⟩
  walk_at "rd"
  walk_at "mk"; intro q hq
  have s3 := Same.new (o := .lst [V.str (rowT standW [many])]) hq
  have e3 : upd H2 q (.lst [V.str (rowT standW [many])]) q = some (.lst [V.str (rowT standW [many])]) := upd_same
  have nq : H q = none := by
    cases e : H q with
    | none => rfl
    | some o => rw [(s1.trans s2) _ _ e] at hq; cases hq
  generalize upd H2 q (.lst [V.str (rowT standW [many])]) = H3 at s3 e3
  have s13 := (s1.trans s2).trans s3
  walk_at "rd"
  refine ⟨.inl ⟨rfl, _, SqL.of e3⟩, ?_⟩
  walk_at "rd"
  refine rd_ixaT (s13 _ _ ht) (v := .ref l) (atI_at (n := 1) rfl rfl) ?_
  walk_at "rd"
  have wr : ∀ {Hx : Hp} {o : HO}, Same H Hx → Same H (upd Hx q o) := fun {Hx o} sx a u e => by
    rw [upd_ne (fun z => by rw [z, nq] at e; cases e)]
    exact sx _ _ e
  have frl : paper.length ≤ 900001 := by omega
  refine ilK_of (SqL.of (s13 _ _ hl)) ?_
  refine cw_list (xs := ys) (big_le (by omega)) (fun i zs σ Hy => (∃ x1, σ = [x1]) ∧ Same H3 Hy ∧ zs = ((paper.take i).map fun f => formsT frameW f.1 f.2.1 f.2.2).map V.str) ⟨⟨none, rfl⟩, Same.refl _, rfl⟩ (fun i zs σ Hy _ ⟨_, s4, _⟩ => SqL.of ((s13.trans s4) _ _ hl)) ?_ ?_
  · rintro i x zs σ Hy hx hle hlt ⟨⟨x1, rfl⟩, s4, rfl⟩
    obtain ⟨d, ed, rd'⟩ := ry.get' hx
    rw [List.getElem?_map] at ed
    obtain ⟨g, en, rfl⟩ := Option.map_eq_some_iff.mp ed
    have gm := List.mem_of_getElem? en
    obtain ⟨o1, o2, o3⟩ := ofr g gm
    have r4 : Rep Hy (.tup [.int g.1, .int g.2.1, formsD g.2.2]) x := rd'.mono (s13.trans s4).ts
    walk_at "rd"
    refine rd_ixI (n := 0) r4 rfl rfl ?_
    walk_at "rd"
    refine rd_ixI (n := 1) r4 rfl rfl ?_
    walk_at "rd"
    refine rd_ixR (n := 2) r4 rfl rfl fun u ru => ?_
    walk_at "rd"
    refine use4 ⟨frameW, g.1, g.2.1, g.2.2, rfl, rfl, rfl, ru, o1, o2, o3, hmem _ (List.mem_cons_of_mem _ (List.mem_append_left _ (List.mem_map.mpr ⟨g, gm, rfl⟩))), fun H5 s5 => ?_⟩
    refine ⟨hlt, by simpa using hle, ⟨_, rfl⟩, s4.trans s5, ?_⟩
    rw [List.take_add_one, en]
    simp
  rintro zs σ Hy _ ⟨⟨x1, rfl⟩, s4, rfl⟩ p5 hp5
  rw [← hyl, List.take_length]
  have s5 := Same.new (o := .lst ((paper.map fun f => formsT frameW f.1 f.2.1 f.2.2).map V.str)) hp5
  have e5 : upd Hy p5 (.lst ((paper.map fun f => formsT frameW f.1 f.2.1 f.2.2).map V.str)) p5 = some (.lst ((paper.map fun f => formsT frameW f.1 f.2.1 f.2.2).map V.str)) := upd_same
  generalize upd Hy p5 (.lst ((paper.map fun f => formsT frameW f.1 f.2.1 f.2.2).map V.str)) = H5 at s5 e5
  walk_at "rd"
  refine rd_extend ((s4.trans s5) _ _ e3) e5 (big_le (by simp only [List.length_map, List.length_cons, List.length_nil]; omega)) ?_
  have s6 : Same H (upd H5 q (.lst ([V.str (rowT standW [many])] ++ (paper.map fun f => formsT frameW f.1 f.2.1 f.2.2).map V.str))) := wr ((s13.trans s4).trans s5)
  have e6 : upd H5 q (.lst ([V.str (rowT standW [many])] ++ (paper.map fun f => formsT frameW f.1 f.2.1 f.2.2).map V.str)) q = some (.lst ([V.str (rowT standW [many])] ++ (paper.map fun f => formsT frameW f.1 f.2.1 f.2.2).map V.str)) := upd_same
  generalize upd H5 q (.lst ([V.str (rowT standW [many])] ++ (paper.map fun f => formsT frameW f.1 f.2.1 f.2.2).map V.str)) = H6 at s6 e6
  walk_at "rd"
  refine ⟨.inl ⟨rfl, _, SqL.of e6⟩, ?_⟩
  walk_at "rd"
  have rd6 : Rep H6 (.tup (.str wd :: (ns.map D.int ++ es.map edgeD))) vd := rd.mono s6.ts
  refine rd_ixR (n := 0) rd6 rfl rfl fun u ru => ?_
  obtain rfl : u = .str wd := by rwa [Rep] at ru
  walk_at "rd"
  obtain ⟨ad, xd, rfl, had, rxd⟩ := rep_tup_inv rd6
  refine rd_slW had fun p7 H7 hp7 s7 => ?_
  rw [Reps] at rxd
  obtain ⟨v0, vr, rfl, _, rvr⟩ := rxd
  have cutE : cutV (v0 :: vr) (some 1) none = vr := by rw [show (1 : Int) = ((1 : Nat) : Int) from rfl, cut_fromA]; rfl
  rw [cutE] at hp7
  have hvl := rvr.length
  rw [List.length_append, List.length_map, List.length_map] at hvl
  have hnl : ns.length ≤ 900001 := by
    have h1 := hmem (rowT wd ns) (List.mem_cons_of_mem _ (List.mem_append_right _ List.mem_cons_self))
    have h2 := row_size wd ns
    simp only [List.map_cons, List.sum_cons, List.length_cons, List.length_map] at h2
    omega
  walk_at "rd"
  refine itK_of (SqT.of hp7) ?_
  have iD : ∀ (l : List EdgeI), (l.map edgeD).flatMap intD = [] := by
    intro l
    induction l with
    | nil => rfl
    | cons e l ih => rw [List.map_cons, List.flatMap_cons, ih]; rfl
  refine cw_tup (xs := vr) (by rw [PySem.sizeLine_eq]; omega) (fun i zs σ Hy => (∃ x1, σ = [x1]) ∧ Hy = H7 ∧ zs = (((ns.map D.int ++ es.map edgeD).take i).flatMap intD).map V.int) ⟨⟨none, rfl⟩, rfl, rfl⟩ (fun i zs σ Hy _ ⟨_, e, _⟩ => by rw [e]; exact SqT.of hp7) ?_ ?_
  · rintro i x zs σ Hy hx hle hlt ⟨⟨x1, rfl⟩, rfl, rfl⟩
    obtain ⟨d, ed, rd'⟩ := rvr.get' hx
    have hd := List.mem_of_getElem? ed
    walk_at "rd"
    rcases List.mem_append.mp hd with hd | hd
    · obtain ⟨n, _, rfl⟩ := List.mem_map.mp hd
      obtain rfl := rep_int_inv rd'
      refine rd_isi rfl (by simp) ⟨_, rfl, iteNF ?_⟩
      walk_at "rd"
      refine ⟨hlt, by simpa using hle, ⟨_, rfl⟩, rfl, ?_⟩
      rw [List.take_add_one, ed]
      simp [intD]
    · obtain ⟨e, _, rfl⟩ := List.mem_map.mp hd
      refine rd_isi (tyN_rep (rd'.mono s7.ts)) (by simp) ⟨_, rfl, iteNT ?_⟩
      refine ⟨by omega, ⟨_, rfl⟩, rfl, ?_⟩
      rw [List.take_add_one, ed]
      simp [intD, edgeD]
  rintro zs σ Hy _ ⟨⟨x1, rfl⟩, rfl, rfl⟩ p8 hp8
  rw [← rvr.length, List.take_length, List.flatMap_append, nums_ints', iD, List.append_nil]
  have s8 := Same.new (o := .lst (ns.map V.int)) hp8
  have e8 : upd Hy p8 (.lst (ns.map V.int)) p8 = some (.lst (ns.map V.int)) := upd_same
  generalize upd Hy p8 (.lst (ns.map V.int)) = H8 at s8 e8
  walk_at "rd"
  refine use2 ⟨wd, p8, ns, rfl, rfl, .inr e8, hmem _ (List.mem_cons_of_mem _ (List.mem_append_right _ List.mem_cons_self)), onu, fun H9 s9 => ?_⟩
  walk_at "rd"
  have s79 := (s7.trans s8).trans s9
  refine rd_append (s79 _ _ e6) (Nat.lt_of_le_of_lt (show _ ≤ 1000000 by simp only [List.length_append, List.length_map, List.length_cons, List.length_nil]; omega) (by rw [PySem.sizeLine_eq]; decide)) ?_
  have s10 : Same H (upd H9 q (.lst ([V.str (rowT standW [many])] ++ (paper.map fun f => formsT frameW f.1 f.2.1 f.2.2).map V.str ++ [V.str (rowT wd ns)]))) := wr (s6.trans s79)
  have e10 : upd H9 q (.lst ([V.str (rowT standW [many])] ++ (paper.map fun f => formsT frameW f.1 f.2.1 f.2.2).map V.str ++ [V.str (rowT wd ns)])) q = some (.lst ([V.str (rowT standW [many])] ++ (paper.map fun f => formsT frameW f.1 f.2.1 f.2.2).map V.str ++ [V.str (rowT wd ns)])) := upd_same
  generalize upd H9 q (.lst ([V.str (rowT standW [many])] ++ (paper.map fun f => formsT frameW f.1 f.2.1 f.2.2).map V.str ++ [V.str (rowT wd ns)])) = HA at s10 e10
  obtain ⟨had0, rvr0⟩ : H ad = some (.tup (v0 :: vr)) ∧ Reps H (ns.map D.int ++ es.map edgeD) vr := by
    obtain ⟨ad', xd', e', h', r'⟩ := rep_tup_inv (show Rep H (.tup (.str wd :: (ns.map D.int ++ es.map edgeD))) (.ref ad) from rd)
    cases e'
    have := s6 _ _ h'
    rw [had] at this
    cases this
    rw [Reps] at r'
    obtain ⟨v', r2, e2, _, h2⟩ := r'
    cases e2
    exact ⟨h', h2⟩
  walk_at "rd"
  refine ⟨.inl ⟨rfl, _, SqL.of e10⟩, ?_⟩
  walk_at "rd"
  refine rd_slW (s10 _ _ had0) fun pB HB hpB sB => ?_
  rw [cutE] at hpB
  walk_at "rd"
  refine itK_of (SqT.of hpB) ?_
  have s0B := s10.trans sB
  refine cw_tup (xs := vr) (by rw [PySem.sizeLine_eq]; omega) (fun i zs σ Hy => (∃ x1, σ = [x1]) ∧ Same HB Hy ∧ zs = ((es.take (i - ns.length)).map fun e => formsT edgeW e.1 e.2.2 e.2.1).map V.str) ⟨⟨none, rfl⟩, Same.refl _, by simp⟩ (fun i zs σ Hy _ ⟨_, s4, _⟩ => SqT.of (s4 _ _ hpB)) ?_ ?_
  · rintro i x zs σ Hy hx hle hlt ⟨⟨x1, rfl⟩, sy, rfl⟩
    obtain ⟨d, ed, rd'⟩ := rvr0.get' hx
    have rdy := rd'.mono (s0B.trans sy).ts
    walk_at "rd"
    by_cases hi : i < ns.length
    · rw [List.getElem?_append_left (by rw [List.length_map]; exact hi), List.getElem?_map] at ed
      obtain ⟨n, _, rfl⟩ := Option.map_eq_some_iff.mp ed
      obtain rfl := rep_int_inv rd'
      refine rd_isi rfl (by simp) ⟨_, rfl, iteF ?_⟩
      refine ⟨by omega, ⟨_, rfl⟩, sy, ?_⟩
      rw [show i + 1 - ns.length = i - ns.length by omega]
    · rw [List.getElem?_append_right (by rw [List.length_map]; omega), List.length_map, List.getElem?_map] at ed
      obtain ⟨g, en, rfl⟩ := Option.map_eq_some_iff.mp ed
      have gm := List.mem_of_getElem? en
      obtain ⟨o1, o2, o3⟩ := oed g gm
      have r4 : Rep Hy (.tup [.int g.1, formsD g.2.1, .int g.2.2]) x := rdy
      refine rd_isi (tyN_rep r4) (by simp) ⟨_, rfl, iteT ?_⟩
      walk_at "rd"
      refine rd_ixI (n := 0) r4 rfl rfl ?_
      walk_at "rd"
      refine rd_ixI (n := 2) r4 rfl rfl ?_
      walk_at "rd"
      refine rd_ixR (n := 1) r4 rfl rfl fun u ru => ?_
      walk_at "rd"
      refine use4 ⟨edgeW, g.1, g.2.2, g.2.1, rfl, rfl, rfl, ru, o1, o2, o3, hmem _ (List.mem_cons_of_mem _ (List.mem_append_right _ (List.mem_cons_of_mem _ (List.mem_map.mpr ⟨g, gm, rfl⟩)))), fun HC sC => ?_⟩
      refine ⟨hlt, by simpa using hle, ⟨_, rfl⟩, sy.trans sC, ?_⟩
      rw [show i + 1 - ns.length = (i - ns.length) + 1 by omega, List.take_add_one, en]
      simp
  rintro zs σ Hy _ ⟨⟨x1, rfl⟩, sy, rfl⟩ pD hpD
  rw [← hvl, show ns.length + es.length - ns.length = es.length by omega, List.take_length]
  have sD := Same.new (o := .lst ((es.map fun e => formsT edgeW e.1 e.2.2 e.2.1).map V.str)) hpD
  have eD : upd Hy pD (.lst ((es.map fun e => formsT edgeW e.1 e.2.2 e.2.1).map V.str)) pD = some (.lst ((es.map fun e => formsT edgeW e.1 e.2.2 e.2.1).map V.str)) := upd_same
  generalize upd Hy pD (.lst ((es.map fun e => formsT edgeW e.1 e.2.2 e.2.1).map V.str)) = HD at sD eD
  walk_at "rd"
  refine rd_extend (((sB.trans sy).trans sD) _ _ e10) eD (by rw [PySem.sizeLine_eq]; simp only [List.length_append, List.length_map, List.length_cons, List.length_nil]; omega) ?_
  walk_at "rd"
  refine k q _ ?_ (wr (((s0B.trans sy).trans sD)))
  rw [upd_same]
  simp [standL]

end
end My

end
section
set_option Elab.async false
set_option linter.all false
set_option maxRecDepth 100000
set_option maxHeartbeats 4000000

namespace My
open PySem L2

section
variable {P : Program} {w : World} {K : PySem.W.Frag} {mg : Str → Option Value} {base : Heap}
noncomputable def sp_shown_lane : Sp := sp1 fun x H Q => ∃ p ys sts, x = .ref p ∧ H p = some (.lst ys) ∧ SAll H sts ys ∧ (∀ st ∈ sts, StOk st) ∧ (laneT sts).length ≤ 900000 ∧ ∀ H', Same H H' → Q (.str (laneT sts)) H'
theorem lane_size (sts : List StandI) : ((sts.map fun st => Str.join feed (standL st)).map (·.length)).sum + sts.length ≤ (laneT sts).length + 1 := by
  cases h : sts with
  | nil => exact Nat.zero_le _
  | cons st r =>
    have := join_size (c := 10) (ps := (st :: r).map fun st => Str.join feed (standL st)) (List.cons_ne_nil _ _)
    unfold laneT
    rw [List.length_map] at this
    rw [show feed = (⟨#[10]⟩ : Str) from feed_eq] at this ⊢
    omega
theorem stand_size (st : StandI) : (Str.join feed (standL st)).length + 1 = ((standL st).map (·.length)).sum + (standL st).length := by
  rw [feed_eq]
  exact join_size (List.cons_ne_nil _ _)
theorem sc_shown_lane : FnScope ["lane"] ["lane"] (defScope s_shown_lane) := ⟨rfl, rfl, rfl, by decide +kernel, rfl, by decide +kernel, by decide +kernel⟩
theorem c_shown_lane (B : Blt mg) (T_shown_lane : TopFn K mg "shown_lane" s_shown_lane ["lane"]) (Cshown_stand : Callee P w K mg base "shown_stand" 3 ["stand"] sp_shown_stand) : Callee P w K mg base "shown_lane" 4 ["lane"] sp_shown_lane := by
  refine T_shown_lane.ok1 sc_shown_lane fun f cdv A outer s H v1 Q E hr h => ?_
  have nd := sc_shown_lane.nd
  obtain ⟨p, ys, sts, rfl, hp, sa, ok, hL, k⟩ := h
  have hsz := lane_size sts
  have hyl := sa.1
  refine' go_body [some (.ref p)] rfl ?hb ?hg
  case hb =>
   refine' pss_one ?zb
   case zb =>
    refine' ps_ret ?zc
    case zc =>
     refine' k_bm (K := K) ?zd ?ze ?zf ?zg ?zh ?zi ?zj
     case zd => exact rfl
     case ze => exact PySem.F.plainAttrs_str
     case zf => exact PySem.F.slot_str_join
     case zg => exact PySem.F.type_str_join
     case zh => exact (k_join (K := K) rfl)
     case zi => exact pe_str
     case zj =>
      refine' pa_consM ?zk ?zl
      case zk =>
       refine' pe_comp (LN := ["stand"]) (FN := []) (fr := []) ?zm ?zn ?zo ?zp ?zq ?zr
       case zm => exact rfl
       case zn => exact (bk_of (by rfl))
       case zo => exact (k_pi_list (K := K) rfl (pv 0))
       case zp =>
        intro cl C fp pins s H
        exact (pg_name (i := 0) (show ((["stand"] : List Str) ++ ([] : List Str)).Nodup by decide +kernel) rfl (Or.inl rfl))
       case zq =>
        intro cl C fp pins s H
        exact pts_nil
       case zr =>
        intro cl C fp pins s H
        refine' k_bm (K := K) ?zs ?zt ?zu ?zv ?zw ?zx ?zy
        case zs => exact rfl
        case zt => exact PySem.F.plainAttrs_str
        case zu => exact PySem.F.slot_str_join
        case zv => exact PySem.F.type_str_join
        case zw => exact (k_join (K := K) rfl)
        case zx => exact pe_str
        case zy => exact (pa_consC (pe_fn Cshown_stand (hr.mono (by first | decide | omega)) (by rfl) (pa_consN (pv 0) pa_nil)) pa_nil)
      case zl => exact pa_nil
  walk_at "rd"
  refine ⟨rfl, ?_⟩
  walk_at "rd"
  refine ilK_of (SqL.of hp) ?_
  refine cw_list (xs := ys) (big_le (by omega)) (fun i zs σ Hy => (∃ x1, σ = [x1]) ∧ Same H Hy ∧ zs = ((sts.take i).map fun st => Str.join feed (standL st)).map V.str) ⟨⟨none, rfl⟩, Same.refl _, rfl⟩ (fun i zs σ Hy _ ⟨_, s1, _⟩ => SqL.of (s1 _ _ hp)) ?_ ?_
  · rintro i x zs σ Hy hx hle hlt ⟨⟨x1, rfl⟩, s1, rfl⟩
    have lt := (List.getElem?_eq_some_iff.mp hx).1
    have en : sts[i]? = some (sts[i]'(by omega)) := List.getElem?_eq_getElem _
    generalize sts[i]'(by omega) = st at en
    have gm := List.mem_of_getElem? en
    have hst := sa.2 i st x en hx
    have h1 := mem_sum (List.mem_map.mpr ⟨st, gm, rfl⟩ : Str.join feed (standL st) ∈ sts.map fun st => Str.join feed (standL st))
    have h2 := stand_size st
    have h3 : 0 < sts.length := List.length_pos_iff.mpr (List.ne_nil_of_mem gm)
    walk_at "rd"
    refine ⟨rfl, ?_⟩
    walk_at "rd"
    refine use1 ⟨st, hst.mono s1, ok st gm, by omega, fun p2 H2 e2 s2 => ?_⟩
    walk_at "rd"
    refine rd_join (zs := standL st) (SqL.of e2) (by decide) (by omega) ?_
    refine ⟨hlt, by simpa using hle, ⟨_, rfl⟩, s1.trans s2, ?_⟩
    rw [List.take_add_one, en]
    simp
    rfl
  rintro zs σ Hy _ ⟨⟨x1, rfl⟩, s1, rfl⟩ p2 hp2
  rw [← hyl, List.take_length]
  walk_at "rd"
  refine rd_join (zs := sts.map fun st => Str.join feed (standL st)) (SqL.of upd_same) (by decide) (by rw [List.length_map]; omega) ?_
  exact k _ (s1.trans (Same.new hp2))

end
end My

end
section
set_option Elab.async false
set_option linter.all false
set_option maxRecDepth 100000
set_option maxHeartbeats 4000000

namespace My
open PySem L2

section
variable {P : Program} {w : World} {K : PySem.W.Frag} {mg : Str → Option Value} {base : Heap}
theorem deed_few {d : DeedI} (h : DeedF d) : d.1.length ≤ 5 ∧ d.2.1.length ≤ 2 ∧ d.2.2.length ≤ 2 ∧ ((d.1 = "hold" ∧ d.2.1.length = 2) ∨ (d.1 ≠ "hold" ∧ d.2.1.length = 0)) := by
  obtain ⟨ks, hk, h1, h2⟩ := h
  have hh : ∀ q ∈ deedT, q.1.length ≤ 5 ∧ q.2.countP (· == numberW) ≤ 2 ∧ q.2.countP (· == edgeW) ≤ 2 ∧ ((q.1 = "hold" ∧ q.2.countP (· == numberW) = 2) ∨ (q.1 ≠ "hold" ∧ q.2.countP (· == numberW) = 0)) := by decide +kernel
  have : ∀ (l : List (Str × List Str)), l.lookup d.1 = some ks → (d.1, ks) ∈ l := by
    intro l
    induction l with
    | nil => intro h; cases h
    | cons q l ih =>
      intro h
      obtain ⟨a, b⟩ := q
      rw [List.lookup_cons] at h
      split at h
      · next e => cases h; rw [beq_iff_eq.mp e]; exact List.mem_cons_self
      · exact List.mem_cons_of_mem _ (ih h)
  rw [h1, h2]
  exact hh _ (this _ hk)
/-- the lines of a text that is being written -/
noncomputable def LnI (H : Hp) (q : Addr) (Hx : Hp) (ls : List Str) : Prop := Same H Hx ∧ Hx q = some (.lst (ls.map V.str))
theorem LnI.to {H Hx Hy : Hp} {q : Addr} {ls : List Str} (I : LnI H q Hx ls) (s : Same Hx Hy) : LnI H q Hy ls := ⟨I.1.trans s, s _ _ I.2⟩
theorem LnI.app {H Hx : Hp} {q : Addr} {ls : List Str} {z : Str} (I : LnI H q Hx ls) (nq : H q = none) : LnI H q (upd Hx q (.lst (ls.map V.str ++ [V.str z]))) (ls ++ [z]) := ⟨fun a u e => by
  rw [upd_ne (fun z => by rw [z, nq] at e; cases e)]
  exact I.1 _ _ e, by rw [upd_same, List.map_append]; rfl⟩
theorem ixN_last {n : Nat} : ixN (n + 1) (-1) = some n := by
  unfold ixN
  rw [if_neg (by decide), if_pos (by omega)]
  congr 1
  omega
theorem rd_last {K : PySem.W.Frag} {H Hx : Hp} {q : Addr} {ls : List Str} {z : Str} {Q : VK} (I : LnI H q Hx (ls ++ [z])) (k : Q (.str z) Hx) : rIxA K (.ref q) (.int (-1)) Hx Q := rd_ixaL I.2 (by rw [List.map_append]; exact atI_neg1) k
theorem rd_setLast {H Hx : Hp} {q : Addr} {ls : List Str} {z z' : Str} {R : Hp → Prop} (nq : H q = none) (I : LnI H q Hx (ls ++ [z])) (k : ∀ Hy, LnI H q Hy (ls ++ [z']) → R Hy) : rSetL (.ref q) (.int (-1)) (.str z') Hx R := by
  refine rd_setL (k := ls.length) I.2 (by rw [List.length_map, List.length_append]; exact ixN_last) (k _ ⟨fun a u e => ?_, ?_⟩)
  · rw [upd_ne (fun z => by rw [z, nq] at e; cases e)]
    exact I.1 _ _ e
  · rw [upd_same]
    congr 2
    rw [List.map_append, List.map_append]
    have := List.set_append_right (s := ls.map V.str) (t := [z].map V.str) ls.length (V.str z') (by rw [List.length_map]; exact Nat.le_refl _)
    rw [this, List.length_map, Nat.sub_self]
    rfl
theorem rd_setLastA {H Hx : Hp} {q p : Addr} {ls : List Str} {z z' : Str} {o : HO} {R : Hp → Prop} (nq : H q = none) (I : LnI H q Hx (ls ++ [z])) (hp : Hx p = some o) (np : p ≠ q) (k : ∀ Hy, LnI H q Hy (ls ++ [z']) → Hy p = some o → R Hy) : rSetL (.ref q) (.int (-1)) (.str z') Hx R := by
  obtain ⟨p', xs, i, j, e1, e2, e3, e4, e5⟩ := rd_setLast (R := fun Hy => LnI H q Hy (ls ++ [z'])) nq I fun Hy I' => I'
  cases e1
  exact ⟨q, xs, i, j, rfl, e2, e3, e4, k _ e5 (by rw [upd_ne np]; exact hp)⟩
noncomputable def isTupD : D → Bool
  | .tup _ => true
  | _ => false
theorem tups_int : ∀ (ns : List Int), (ns.map D.int).filter isTupD = []
  | [] => rfl
  | n :: ns => tups_int ns
theorem tups_edge : ∀ (es : List EdgeI), (es.map edgeD).filter isTupD = es.map edgeD
  | [] => rfl
  | e :: es => by
    show edgeD e :: (es.map edgeD).filter isTupD = _
    rw [tups_edge es]
    rfl
theorem stand_len {st : StandI} (h : SB st) : (standL st).length ≤ 8 ∧ ∀ x ∈ standL st, x.length ≤ 1910 := by
  obtain ⟨d1, d2, d3, _⟩ := deed_few h.deed
  have hf := h.few
  refine ⟨?_, fun x hx => ?_⟩
  · unfold standL
    simp only [List.length_cons, List.length_append, List.length_map]
    omega
  · have row : ∀ (w : Str) (ns : List Int), w.length ≤ 10 → ns.length ≤ 2 → (∀ n ∈ ns, N60 n) → (rowT w ns).length ≤ 1910 := fun w ns hw hn hs => by
      have hsz := row_size w ns
      have hm := sum_le (m := 62) (l := ns.map numS) fun x hx => by
        obtain ⟨n, hn, rfl⟩ := List.mem_map.mp hx
        exact (hs n hn).len
      rw [List.length_map] at hm
      rw [List.map_cons, List.sum_cons, List.length_cons, List.length_map] at hsz
      omega
    rcases List.mem_cons.mp hx with rfl | hx
    · exact row _ _ (by decide) (show 1 ≤ 2 by decide) fun n hn => by rw [List.mem_singleton.mp hn]; exact h.many
    · rcases List.mem_append.mp hx with hx | hx
      · obtain ⟨f, hf, rfl⟩ := List.mem_map.mp hx
        obtain ⟨o1, o2, o3⟩ := h.fr f hf
        exact forms_len (by decide) o1 o2 o3
      · rcases List.mem_cons.mp hx with rfl | hx
        · exact row _ _ (by omega) d2 h.nums
        · obtain ⟨f, hf, rfl⟩ := List.mem_map.mp hx
          obtain ⟨o1, o2, o3⟩ := h.eds f hf
          exact forms_len (by decide) o1 o2 o3
theorem lane_len {sts : List StandI} (h : ∀ st ∈ sts, SB st) : (sts.map standL).flatten.length ≤ 8 * sts.length ∧ ∀ x ∈ (sts.map standL).flatten, x.length ≤ 1910 := by
  refine ⟨?_, fun x hx => ?_⟩
  · induction sts with
    | nil => exact Nat.le_refl _
    | cons st sts ih =>
      have h1 := (stand_len (h st List.mem_cons_self)).1
      have h2 := ih fun s hs => h s (List.mem_cons_of_mem _ hs)
      rw [List.map_cons, List.flatten_cons, List.length_append, List.length_cons]
      omega
  · obtain ⟨l, hl, hx⟩ := List.mem_flatten.mp hx
    obtain ⟨st, hst, rfl⟩ := List.mem_map.mp hl
    exact (stand_len (h st hst)).2 x hx
theorem SB.ok {st : StandI} (h : SB st) : WOk st := ⟨h.many.sm, fun f hf => ⟨(h.fr f hf).1.sm, (h.fr f hf).2.1.sm, fun g hg => ((h.fr f hf).2.2.2 g hg).ok⟩, fun n hn => (h.nums n hn).sm, fun e he => ⟨(h.eds e he).1.sm, (h.eds e he).2.1.sm, fun g hg => ((h.eds e he).2.2.2 g hg).ok⟩, h.deed⟩
theorem stand_cut {sts : List StandI} {i : Nat} {st : StandI} (e : sts[i]? = some st) : ((sts.take (i + 1)).map standL).flatten = ((sts.take i).map standL).flatten ++ standL st := by
  rw [List.take_add_one, e, List.map_append, List.flatten_append]
  simp
theorem LB.cut {fs : List FormI} (h : LB fs) (j : Nat) : LB (fs.take j) := ⟨Nat.le_trans (by rw [List.length_take]; exact Nat.min_le_right _ _) h.1, fun f hf => h.2 f (List.mem_of_mem_take hf)⟩
noncomputable def sp_lwritten : Sp := sp1 fun x H Q => ∃ p sts vs, x = .ref p ∧ H p = some (.lst vs) ∧ SAll H sts vs ∧ (∀ st ∈ sts, SB st) ∧ sts.length ≤ 5 ∧ ∀ H', Same H H' → Q (.str (laneT sts)) H'
theorem sc__law_lane_written : FnScope ["lane", "lines", "many", "paper", "deed", "f", "at", "forms", "form", "rows", "moves", "k"] ["lane"] (defScope s__law_lane_written) := ⟨rfl, rfl, rfl, by decide +kernel, rfl, by decide +kernel, by decide +kernel⟩
theorem c__law_lane_written (B : Blt mg) (T__law_lane_written : TopFn K mg "_law_lane_written" s__law_lane_written ["lane"]) (C_law_form_written : Callee P w K mg base "_law_form_written" 1 ["form"] sp_fwritten) : Callee P w K mg base "_law_lane_written" 2 ["lane"] sp_lwritten := by
  refine T__law_lane_written.ok1 sc__law_lane_written fun f cdv A outer s H v1 Q E hr h => ?_
  have nd := sc__law_lane_written.nd
  obtain ⟨p, sts, vs, rfl, hp, sa, ok, hl5, k⟩ := h
  have hvl := sa.1
  refine' go_body [some (.ref p), none, none, none, none, none, none, none, none, none, none, none] rfl ?hb ?hg
  case hb =>
   refine' pss_cons ?zb ?zc
   case zb => exact (ps_setL (i := 1) nd rfl (Or.inl rfl) (pe_lst pa_nil))
   case zc =>
    refine' pss_cons ?zd ?ze
    case zd =>
     refine' ps_for ?zf ?zg ?zh ?zi ?zj
     case zf => exact PassesOwn.never
     case zg => exact rfl
     case zh => exact (k_pi_list (K := K) rfl (pv 0))
     case zi =>
      refine' k_pg_tup (K := K) (n := 3) ?zk ?zl ?zm
      case zk => exact rfl
      case zl => exact rfl
      case zm =>
       refine' pgs_cons ?zn ?zo
       case zn => exact (pg_name (i := 2) nd rfl (Or.inl rfl))
       case zo => exact (pgs_cons (pg_name (i := 3) nd rfl (Or.inl rfl)) (pgs_cons (pg_name (i := 4) nd rfl (Or.inl rfl)) pgs_nil))
     case zj =>
      refine' pss_cons ?zp ?zq
      case zp =>
       refine' ps_expr ?zr
       case zr =>
        refine' k_bm (K := K) ?zs ?zt ?zu ?zv ?zw ?zx ?zy
        case zs => exact rfl
        case zt => exact PySem.F.plainAttrs_list
        case zu => exact PySem.F.slot_list_append
        case zv => exact PySem.F.type_list_append
        case zw => exact mt_append
        case zx => exact (pv 1)
        case zy => exact (pa_consB (pe_op op_addS pe_str (pe_callTy call_strI (by rfl) B.b_str bt_str (pa_consN (pv 2) pa_nil))) pa_nil)
      case zq =>
       refine' pss_cons ?zz ?zba
       case zz =>
        refine' ps_for ?zbb ?zbc ?zbd ?zbe ?zbf
        case zbb => exact PassesOwn.never
        case zbc => exact rfl
        case zbd => exact (k_pi_list (K := K) rfl (pv 3))
        case zbe =>
         refine' k_pg_tup (K := K) (n := 3) ?zbg ?zbh ?zbi
         case zbg => exact rfl
         case zbh => exact rfl
         case zbi =>
          refine' pgs_cons ?zbj ?zbk
          case zbj => exact (pg_name (i := 5) nd rfl (Or.inl rfl))
          case zbk => exact (pgs_cons (pg_name (i := 6) nd rfl (Or.inl rfl)) (pgs_cons (pg_name (i := 7) nd rfl (Or.inl rfl)) pgs_nil))
        case zbf =>
         refine' pss_cons ?zbl ?zbm
         case zbl =>
          refine' ps_expr ?zbn
          case zbn =>
           refine' k_bm (K := K) ?zbo ?zbp ?zbq ?zbr ?zbs ?zbt ?zbu
           case zbo => exact rfl
           case zbp => exact PySem.F.plainAttrs_list
           case zbq => exact PySem.F.slot_list_append
           case zbr => exact PySem.F.type_list_append
           case zbs => exact mt_append
           case zbt => exact (pv 1)
           case zbu =>
            refine' pa_consB ?zbv ?zbw
            case zbv =>
             refine' pe_op ?zbx ?zby ?zbz
             case zbx => exact op_addS
             case zby => exact (pe_op op_addS (pe_op op_addS pe_str (pe_callTy call_strI (by rfl) B.b_str bt_str (pa_consN (pv 5) pa_nil))) pe_str)
             case zbz => exact (pe_callTy call_strI (by rfl) B.b_str bt_str (pa_consN (pv 6) pa_nil))
            case zbw => exact pa_nil
         case zbm =>
          refine' pss_one ?zca
          case zca =>
           refine' ps_for ?zcb ?zcc ?zcd ?zce ?zcf
           case zcb => exact PassesOwn.never
           case zcc => exact rfl
           case zcd => exact (k_pi_tup (K := K) rfl (pv 7))
           case zce => exact (pg_name (i := 8) nd rfl (Or.inl rfl))
           case zcf =>
            refine' pss_one ?zcg
            case zcg =>
             refine' ps_asg ?zch ?zci
             case zch =>
              refine' pe_op ?zcj ?zck ?zcl
              case zcj => exact op_addS
              case zck => exact (pe_op op_addS (pe_ix (k_ix (K := K) rfl) (pv 1) (pe_un un_neg pe_int) (fun _ _ => rfl)) pe_str)
              case zcl => exact (pe_fn C_law_form_written (hr.mono (by first | decide | omega)) (by rfl) (pa_consN (pv 8) pa_nil))
             case zci => exact (pg_sub (pv 1) (pe_un un_neg pe_int) set_list)
       case zba =>
        refine' pss_cons ?zcm ?zcn
        case zcm =>
         refine' ps_expr ?zco
         case zco =>
          refine' k_bm (K := K) ?zcp ?zcq ?zcr ?zcs ?zct ?zcu ?zcv
          case zcp => exact rfl
          case zcq => exact PySem.F.plainAttrs_list
          case zcr => exact PySem.F.slot_list_append
          case zcs => exact PySem.F.type_list_append
          case zct => exact mt_append
          case zcu => exact (pv 1)
          case zcv => exact (pa_consS (pe_ix (k_ix (K := K) rfl) (pv 4) pe_int (fun _ _ => rfl)) pa_nil)
        case zcn =>
         refine' pss_cons ?zcw ?zcx
         case zcw =>
          refine' ps_if ?zcy ?zcz ?zda
          case zcy => exact (pt_cmpR op_eq (pe_ix (k_ix (K := K) rfl) (pv 4) pe_int (fun _ _ => rfl)) pe_str (nomark _))
          case zcz =>
           refine' pss_one ?zdb
           case zdb =>
            refine' ps_asg ?zdc ?zdd
            case zdc =>
             refine' pe_op ?zde ?zdf ?zdg
             case zde => exact op_addS
             case zdf =>
              refine' pe_op ?zdh ?zdi ?zdj
              case zdh => exact op_addS
              case zdi =>
               refine' pe_op ?zdk ?zdl ?zdm
               case zdk => exact op_addS
               case zdl => exact (pe_op op_addS (pe_ix (k_ix (K := K) rfl) (pv 1) (pe_un un_neg pe_int) (fun _ _ => rfl)) pe_str)
               case zdm => exact (pe_callTy call_strI (by rfl) B.b_str bt_str (pa_consS (pe_ix (k_ix (K := K) rfl) (pv 4) pe_int (fun _ _ => rfl)) pa_nil))
              case zdj => exact pe_str
             case zdg => exact (pe_callTy call_strI (by rfl) B.b_str bt_str (pa_consS (pe_ix (k_ix (K := K) rfl) (pv 4) pe_int (fun _ _ => rfl)) pa_nil))
            case zdd => exact (pg_sub (pv 1) (pe_un un_neg pe_int) set_list)
          case zda => exact pss_nil
         case zcx =>
          refine' pss_one ?zdn
          case zdn =>
           refine' ps_for ?zdo ?zdp ?zdq ?zdr ?zds
           case zdo => exact PassesOwn.never
           case zdp => exact rfl
           case zdq =>
            refine' k_pi_list (K := K) ?zdt ?zdu
            case zdt => exact rfl
            case zdu =>
             refine' pe_comp (LN := ["part"]) (FN := []) (fr := []) ?zdv ?zdw ?zdx ?zdy ?zdz ?zea
             case zdv => exact rfl
             case zdw => exact (bk_of (by rfl))
             case zdx => exact (k_pi_tup (K := K) rfl (pv 4))
             case zdy =>
              intro cl C fp pins s H
              exact (pg_name (i := 0) (show ((["part"] : List Str) ++ ([] : List Str)).Nodup by decide +kernel) rfl (Or.inl rfl))
             case zdz =>
              intro cl C fp pins s H
              refine' pts_one ?zeb
              case zeb =>
               refine' pt_val ?zec
               case zec =>
                refine' pe_callB ?zed ?zee ?zef ?zeg ?zeh
                case zed => exact call_isi
                case zee => exact (by rfl)
                case zef => exact B.b_isinstance
                case zeg => exact bt_isinstance
                case zeh => exact (pa_consN (pv 0) (pa_consN (pe_bltn (v := .ty "tuple") (by rfl) B.b_tuple bt_tuple rfl) pa_nil))
             case zea =>
              intro cl C fp pins s H
              exact (pv 0)
           case zdr =>
            refine' k_pg_tup (K := K) (n := 3) ?zei ?zej ?zek
            case zei => exact rfl
            case zej => exact rfl
            case zek =>
             refine' pgs_cons ?zel ?zem
             case zel => exact (pg_name (i := 9) nd rfl (Or.inl rfl))
             case zem => exact (pgs_cons (pg_name (i := 10) nd rfl (Or.inl rfl)) (pgs_cons (pg_name (i := 11) nd rfl (Or.inl rfl)) pgs_nil))
           case zds =>
            refine' pss_cons ?zen ?zeo
            case zen =>
             refine' ps_expr ?zep
             case zep =>
              refine' k_bm (K := K) ?zeq ?zer ?zes ?zet ?zeu ?zev ?zew
              case zeq => exact rfl
              case zer => exact PySem.F.plainAttrs_list
              case zes => exact PySem.F.slot_list_append
              case zet => exact PySem.F.type_list_append
              case zeu => exact mt_append
              case zev => exact (pv 1)
              case zew =>
               refine' pa_consB ?zex ?zey
               case zex =>
                refine' pe_op ?zez ?zfa ?zfb
                case zez => exact op_addS
                case zfa => exact (pe_op op_addS (pe_op op_addS pe_str (pe_callTy call_strI (by rfl) B.b_str bt_str (pa_consN (pv 9) pa_nil))) pe_str)
                case zfb => exact (pe_callTy call_strI (by rfl) B.b_str bt_str (pa_consN (pv 11) pa_nil))
               case zey => exact pa_nil
            case zeo =>
             refine' pss_one ?zfc
             case zfc =>
              refine' ps_for ?zfd ?zfe ?zff ?zfg ?zfh
              case zfd => exact PassesOwn.never
              case zfe => exact rfl
              case zff => exact (k_pi_tup (K := K) rfl (pv 10))
              case zfg => exact (pg_name (i := 8) nd rfl (Or.inl rfl))
              case zfh =>
               refine' pss_one ?zfi
               case zfi =>
                refine' ps_asg ?zfj ?zfk
                case zfj =>
                 refine' pe_op ?zfl ?zfm ?zfn
                 case zfl => exact op_addS
                 case zfm => exact (pe_op op_addS (pe_ix (k_ix (K := K) rfl) (pv 1) (pe_un un_neg pe_int) (fun _ _ => rfl)) pe_str)
                 case zfn => exact (pe_fn C_law_form_written (hr.mono (by first | decide | omega)) (by rfl) (pa_consN (pv 8) pa_nil))
                case zfk => exact (pg_sub (pv 1) (pe_un un_neg pe_int) set_list)
    case ze =>
     refine' pss_one ?zfo
     case zfo => exact (ps_ret (k_bm (K := K) rfl PySem.F.plainAttrs_str PySem.F.slot_str_join PySem.F.type_str_join (k_join (K := K) rfl) pe_str (pa_consN (pv 1) pa_nil)))
  walk_at "rd"
  walk_at "mk"; intro q nq
  have I0 : LnI H q (upd H q (.lst [])) [] := ⟨Same.new nq, upd_same⟩
  generalize upd H q (.lst []) = H0 at I0
  walk_at "rd"
  refine ilK_of (SqL.of (I0.1 _ _ hp)) ?_
  refine for_list (xs := vs) (fun i σ Hx => ∃ x2 x3 x4 x5 x6 x7 x8 x9 x10 x11, σ = [some (.ref p), some (.ref q), x2, x3, x4, x5, x6, x7, x8, x9, x10, x11] ∧ LnI H q Hx ((sts.take i).map standL).flatten) ⟨none, none, none, none, none, none, none, none, none, none, rfl, I0⟩ (fun i σ Hx _ ⟨_, _, _, _, _, _, _, _, _, _, _, I⟩ => SqL.of (I.1 _ _ hp)) ?_ ?_
  · rintro i x σ Hx hx ⟨x2, x3, x4, x5, x6, x7, x8, x9, x10, x11, rfl, I⟩
    have hil := (List.getElem?_eq_some_iff.mp hx).1
    have est : sts[i]? = some (sts[i]'(by omega)) := List.getElem?_eq_getElem (by omega)
    generalize sts[i]'(by omega) = st at est
    have SBs := ok st (List.mem_of_getElem? est)
    obtain ⟨many, paper, wd, ns, es⟩ := st
    obtain ⟨t, l, ys, vd, rfl, ht, hl, ry, rd⟩ := sa.2 i _ x est hx
    rw [show ((sts.take (i + 1)).map standL).flatten = ((sts.take i).map standL).flatten ++ standL (many, paper, wd, ns, es) from stand_cut est]
    have hcut := (lane_len (sts := sts.take i) fun s hs => ok s (List.mem_of_mem_take hs)).1
    rw [List.length_take] at hcut
    generalize ((sts.take i).map standL).flatten = L0 at I hcut
    have hL0 : L0.length ≤ 40 := by omega
    have hmany : N60 many := SBs.many
    have hfr : ∀ g ∈ paper, FRB g := SBs.fr
    have hfew : paper.length ≤ 4 := SBs.few
    have hns : ∀ n ∈ ns, N60 n := SBs.nums
    have hes : ∀ e ∈ es, EB e := SBs.eds
    obtain ⟨d1, d2, d3, d4⟩ := deed_few SBs.deed
    dsimp only at d1 d2 d3 d4
    have hyl := ry.length
    rw [List.length_map] at hyl
    have hyl : paper.length = ys.length := hyl
    have ry : Reps H (paper.map frameD) ys := ry
    have rd : Rep H (.tup (.str wd :: (ns.map D.int ++ es.map edgeD))) vd := rd
    have ht : H t = some (.tup [.int many, .ref l, vd]) := ht
    walk_at "rd"
    refine rd_gtup (I.1 _ _ ht) rfl ?_
    walk_at "rd"
    refine ⟨.inl ⟨rfl, _, SqL.of I.2⟩, ?_⟩
    walk_at "rd"
    refine rd_strI (sm_log hmany.sm) ?_
    refine rd_addS (big_le (by have := hmany.len; show 6 + (numS many).length ≤ _; omega)) ?_
    walk_at "rd"
    refine rd_append I.2 (Nat.lt_of_le_of_lt (show (L0.map V.str).length ≤ 1000 by rw [List.length_map]; omega) (by decide)) ?_
    have e1 : Str.ofString "stand " ++ (toString many : Str) = rowT standW [many] := by
      apply cs_inj
      unfold rowT
      rw [blank_eq, cs_join, List.map_cons, jn_all, cs_app, show cs (Str.ofString "stand ") = cs standW ++ [32] from by decide]
      show _ ++ cs (numS many) = _
      simp
    rw [e1]
    have I1 := I.app (z := rowT standW [many]) nq
    generalize upd Hx q (.lst (L0.map V.str ++ [V.str (rowT standW [many])])) = H1 at I1
    walk_at "rd"
    refine ilK_of (SqL.of (I1.1 _ _ hl)) ?_
    refine for_list (xs := ys) (fun j σ Hy => ∃ y5 y6 y7 y8, σ = [some (.ref p), some (.ref q), some (.int many), some (.ref l), some vd, y5, y6, y7, y8, x9, x10, x11] ∧ LnI H q Hy (L0 ++ [rowT standW [many]] ++ (paper.take j).map fun f => formsT frameW f.1 f.2.1 f.2.2)) ⟨x5, x6, x7, x8, rfl, by rw [List.take_zero, List.map_nil, List.append_nil]; exact I1⟩ (fun j σ Hy _ ⟨_, _, _, _, _, I⟩ => SqL.of (I.1 _ _ hl)) ?_ ?_
    · rintro j x σ Hy hx ⟨y5, y6, y7, y8, rfl, I2⟩
      obtain ⟨d, ed, rd'⟩ := ry.get' hx
      rw [List.getElem?_map] at ed
      obtain ⟨g, en, rfl⟩ := Option.map_eq_some_iff.mp ed
      obtain ⟨o1, o2, o3⟩ := hfr g (List.mem_of_getElem? en)
      obtain ⟨fa, ft, fs⟩ := g
      dsimp only at o1 o2 o3
      have r4 : Rep Hy (.tup [.int fa, .int ft, formsD fs]) x := rd'.mono I2.1.ts
      rw [show (paper.take (j + 1)).map (fun f => formsT frameW f.1 f.2.1 f.2.2) = (paper.take j).map (fun f => formsT frameW f.1 f.2.1 f.2.2) ++ [formsT frameW fa ft fs] by rw [List.take_add_one, en]; simp, ← List.append_assoc]
      have hcl : (L0 ++ [rowT standW [many]] ++ (paper.take j).map fun f => formsT frameW f.1 f.2.1 f.2.2).length ≤ 100 := by
        simp only [List.length_append, List.length_map, List.length_take, List.length_cons, List.length_nil]
        omega
      generalize (L0 ++ [rowT standW [many]] ++ (paper.take j).map fun f => formsT frameW f.1 f.2.1 f.2.2) = L1 at I2 hcl
      obtain ⟨t5, zs, rfl, ht5, rzs⟩ := rep_tup_inv r4
      obtain ⟨v0, zr, rfl, r0, rzs⟩ := reps_cons_inv rzs
      obtain ⟨v1, zr, rfl, r1, rzs⟩ := reps_cons_inv rzs
      obtain ⟨v2, zr, rfl, r2, rzs⟩ := reps_cons_inv rzs
      obtain rfl := reps_nil_inv rzs
      obtain rfl := rep_int_inv r0
      obtain rfl := rep_int_inv r1
      refine rd_gtup ht5 rfl ?_
      walk_at "rd"
      refine ⟨.inl ⟨rfl, _, SqL.of I2.2⟩, ?_⟩
      have la := o1.len
      have lb := o2.len
      walk_at "rd"
      refine rd_strI (sm_log o1.sm) ?_
      refine rd_addS (big_le (show 6 + (numS fa).length ≤ _ by omega)) ?_
      walk_at "rd"
      refine rd_addS (big_le (by rw [len_app]; show 6 + (numS fa).length + 1 ≤ _; omega)) ?_
      walk_at "rd"
      refine rd_strI (sm_log o2.sm) ?_
      refine rd_addS (big_le (by rw [len_app, len_app]; show 6 + (numS fa).length + 1 + (numS ft).length ≤ _; omega)) ?_
      walk_at "rd"
      refine rd_append I2.2 (Nat.lt_of_le_of_lt (show (L1.map V.str).length ≤ 1000 by rw [List.length_map]; omega) (by decide)) ?_
      have e2 : Str.ofString "frame " ++ (toString fa : Str) ++ Str.ofString " " ++ (toString ft : Str) = formsT frameW fa ft [] := (forms_nil frameW fa ft).symm
      rw [e2]
      have I3 := I2.app (z := formsT frameW fa ft []) nq
      generalize upd Hy q (.lst (L1.map V.str ++ [V.str (formsT frameW fa ft [])])) = H3 at I3
      walk_at "rd"
      have r2 : Rep H (formsD fs) v2 := by
        obtain ⟨t5', zs', e5, ht5', rzs'⟩ := rep_tup_inv (show Rep H (.tup [.int fa, .int ft, formsD fs]) (.ref t5) from rd')
        cases e5
        rw [I2.1 _ _ ht5'] at ht5
        cases ht5
        obtain ⟨_, _, e6, _, rzs'⟩ := reps_cons_inv rzs'
        cases e6
        obtain ⟨_, _, e6, _, rzs'⟩ := reps_cons_inv rzs'
        cases e6
        obtain ⟨_, _, e6, r6, _⟩ := reps_cons_inv rzs'
        cases e6
        exact r6
      obtain ⟨af, xf, rfl, haf, rxf⟩ := rep_tup_inv r2
      refine itK_of (SqT.of (I3.1 _ _ haf)) ?_
      have hxl := rxf.length
      rw [List.length_map] at hxl
      refine for_tup (xs := xf) (fun m σ Hz => ∃ y8, σ = [some (.ref p), some (.ref q), some (.int many), some (.ref l), some vd, some (.int fa), some (.int ft), some (.ref af), y8, x9, x10, x11] ∧ LnI H q Hz (L1 ++ [formsT frameW fa ft (fs.take m)])) ⟨y8, rfl, I3⟩ (fun m σ Hz _ ⟨_, _, I⟩ => SqT.of (I.1 _ _ haf)) ?_ ?_
      · rintro m x σ Hz hx ⟨y8, rfl, I4⟩
        obtain ⟨d, ed, rdm⟩ := rxf.get' hx
        rw [List.getElem?_map] at ed
        obtain ⟨g, en, rfl⟩ := Option.map_eq_some_iff.mp ed
        have hg := o3.2 g (List.mem_of_getElem? en)
        have l1 := forms_len (w := frameW) (by decide) o1 o2 (o3.cut m)
        have l2 := form_len hg
        walk_at "rd"
        refine rd_last I4 ?_
        walk_at "rd"
        refine rd_addS (big_le (show (formsT frameW fa ft (fs.take m)).length + 1 ≤ _ by omega)) ?_
        walk_at "rd"
        refine use1 ⟨g, rdm.mono I4.1.ts, hg, fun H5 s5 => ?_⟩
        refine rd_addS (big_le (by rw [len_app]; show (formsT frameW fa ft (fs.take m)).length + 1 + _ ≤ _; omega)) ?_
        walk_at "rd"
        refine rd_setLast nq (I4.to s5) fun Hw I6 => ?_
        refine ⟨_, rfl, ?_⟩
        rw [List.take_add_one, en]
        have e := forms_snoc frameW fa ft (fs.take m) g
        rw [show fs.take m ++ (some g).toList = fs.take m ++ [g] from rfl, e]
        exact I6
      · rintro σ Hz ⟨y8, rfl, I4⟩
        rw [← hxl, List.take_length] at I4
        exact ⟨_, _, _, _, rfl, I4⟩
    rintro σ H2 ⟨y5, y6, y7, y8, rfl, I2⟩
    rw [← hyl, List.take_length] at I2
    have hcl : (L0 ++ [rowT standW [many]] ++ paper.map fun f => formsT frameW f.1 f.2.1 f.2.2).length ≤ 100 := by
      simp only [List.length_append, List.length_map, List.length_cons, List.length_nil]
      omega
    have eSt : L0 ++ standL (many, paper, wd, ns, es) = (L0 ++ [rowT standW [many]] ++ paper.map fun f => formsT frameW f.1 f.2.1 f.2.2) ++ [rowT wd ns] ++ es.map fun e => formsT edgeW e.1 e.2.2 e.2.1 := by
      unfold standL
      simp only [List.append_assoc, List.cons_append, List.nil_append]
    rw [eSt]
    generalize (L0 ++ [rowT standW [many]] ++ paper.map fun f => formsT frameW f.1 f.2.1 f.2.2) = L1 at I2 hcl
    walk_at "rd"
    refine ⟨.inl ⟨rfl, _, SqL.of I2.2⟩, ?_⟩
    have rd2 := rd.mono I2.1.ts
    walk_at "rd"
    refine rd_ixR (n := 0) rd2 rfl rfl fun u ru => ?_
    obtain rfl : u = .str wd := by rwa [Rep] at ru
    walk_at "rd"
    refine rd_append I2.2 (Nat.lt_of_le_of_lt (show (L1.map V.str).length ≤ 1000 by rw [List.length_map]; omega) (by decide)) ?_
    have I3 := I2.app (z := wd) nq
    generalize upd H2 q (.lst (L1.map V.str ++ [V.str wd])) = H3 at I3
    refine rd_next ?_
    dsimp only
    refine rd_meet (fun σ' H' => σ' = [some (.ref p), some (.ref q), some (.int many), some (.ref l), some vd, y5, y6, y7, y8, x9, x10, x11] ∧ LnI H q H' (L1 ++ [rowT wd ns])) ?_ fun N hN => ?_
    rotate_left
    · walk_at "rd"
      have rd3 := rd.mono I3.1.ts
      refine rd_ixR (n := 0) rd3 rfl rfl fun u ru => ?_
      obtain rfl : u = .str wd := by rwa [Rep] at ru
      walk_at "rd"
      refine ite_dd (fun hh => ?_) (fun hh => ?_)
      · rcases d4 with ⟨_, hn2⟩ | ⟨hn, _⟩
        · obtain ⟨a, b, rfl⟩ : ∃ a b, ns = [a, b] := by
            rcases ns with _ | ⟨a, _ | ⟨b, _ | ⟨c, r⟩⟩⟩
            · cases hn2
            · cases hn2
            · exact ⟨a, b, rfl⟩
            · simp at hn2
          have ha := hns a List.mem_cons_self
          have hb := hns b (List.mem_cons_of_mem _ List.mem_cons_self)
          have la := ha.len
          have lb := hb.len
          walk_at "rd"
          refine rd_last I3 ?_
          walk_at "rd"
          refine rd_addS (big_le (show wd.length + 1 ≤ _ by omega)) ?_
          walk_at "rd"
          refine rd_ixI (n := 1) rd3 rfl rfl ?_
          walk_at "rd"
          refine rd_strI (sm_log ha.sm) ?_
          refine rd_addS (big_le (by rw [len_app]; show wd.length + 1 + (numS a).length ≤ _; omega)) ?_
          walk_at "rd"
          refine rd_addS (big_le (by rw [len_app, len_app]; show wd.length + 1 + (numS a).length + 1 ≤ _; omega)) ?_
          walk_at "rd"
          refine rd_ixI (n := 2) rd3 rfl rfl ?_
          walk_at "rd"
          refine rd_strI (sm_log hb.sm) ?_
          refine rd_addS (big_le (by rw [len_app, len_app, len_app]; show wd.length + 1 + (numS a).length + 1 + (numS b).length ≤ _; omega)) ?_
          walk_at "rd"
          refine rd_setLast nq I3 fun Hw I6 => ?_
          refine hN _ _ ⟨rfl, ?_⟩
          have e := forms_nil wd a b
          rw [show rowT wd [a, b] = formsT wd a b [] from rfl, e]
          exact I6
        · exact absurd hh hn
      · rcases d4 with ⟨hn, _⟩ | ⟨_, hn⟩
        · exact absurd hn hh
        · obtain rfl := List.eq_nil_of_length_eq_zero hn
          walk_at "rd"
          exact hN _ _ ⟨rfl, I3⟩
    rintro σ' H4 ⟨rfl, I4⟩
    clear I3 I2 I1 I rd2
    walk_at "rd"
    have rd4 := rd.mono I4.1.ts
    obtain ⟨ad, xd, rfl, had, rxd⟩ := rep_tup_inv rd
    have hxd := rxd.length
    simp only [List.length_cons, List.length_append, List.length_map] at hxd
    refine itK_of (SqT.of (I4.1 _ _ had)) ?_
    refine cw_tup (xs := xd) (big_le (by omega)) (fun j zs σ Hy => (∃ x1, σ = [x1]) ∧ Hy = H4 ∧ Reps H (((D.str wd :: (ns.map D.int ++ es.map edgeD)).take j).filter isTupD) zs) ⟨⟨none, rfl⟩, rfl, reps_nil⟩ (fun j zs σ Hy _ ⟨_, e, _⟩ => by rw [e]; exact SqT.of (I4.1 _ _ had)) ?_ ?_
    · rintro j x zs σ Hy hx hle hlt ⟨⟨x1, rfl⟩, rfl, rz⟩
      obtain ⟨d, ed, rd'⟩ := rxd.get' hx
      have cutE : ((D.str wd :: (ns.map D.int ++ es.map edgeD)).take (j + 1)).filter isTupD = ((D.str wd :: (ns.map D.int ++ es.map edgeD)).take j).filter isTupD ++ [d].filter isTupD := by
        rw [List.take_add_one, ed, List.filter_append]
        rfl
      have hd := List.mem_of_getElem? ed
      walk_at "rd"
      rcases List.mem_cons.mp hd with rfl | hd
      · obtain rfl : x = .str wd := by rwa [Rep] at rd'
        refine rd_isi (t := "str") rfl (by simp) ⟨_, rfl, iteF ?_⟩
        refine ⟨by omega, ⟨_, rfl⟩, rfl, ?_⟩
        rw [cutE]
        exact (List.append_nil _).symm ▸ rz
      rcases List.mem_append.mp hd with hd | hd
      · obtain ⟨n, _, rfl⟩ := List.mem_map.mp hd
        obtain rfl := rep_int_inv rd'
        refine rd_isi (t := "int") rfl (by simp) ⟨_, rfl, iteF ?_⟩
        refine ⟨by omega, ⟨_, rfl⟩, rfl, ?_⟩
        rw [cutE]
        exact (List.append_nil _).symm ▸ rz
      · obtain ⟨e, _, rfl⟩ := List.mem_map.mp hd
        refine rd_isi (tyN_rep (rd'.mono I4.1.ts)) (by simp) ⟨_, rfl, iteT ?_⟩
        walk_at "rd"
        refine ⟨hlt, by simpa using hle, ⟨_, rfl⟩, rfl, ?_⟩
        rw [cutE]
        exact rz.append (reps_cons rd' reps_nil)
    rintro zs σ Hy _ ⟨⟨x1, rfl⟩, rfl, rz⟩ p5 hp5
    rw [← rxd.length, List.take_length, List.filter_cons, if_neg (show ¬ isTupD (D.str wd) = true from fun z => by cases z), List.filter_append, tups_int, tups_edge, List.nil_append] at rz
    have hzl := rz.length
    rw [List.length_map] at hzl
    have s5 := Same.new (o := .lst zs) hp5
    have e5 : upd Hy p5 (.lst zs) p5 = some (.lst zs) := upd_same
    have I5 := I4.to s5
    have n5 : p5 ≠ q := fun z => by rw [z, I4.2] at hp5; cases hp5
    generalize upd Hy p5 (.lst zs) = H5 at s5 e5 I5
    refine ilK_of (SqL.of e5) ?_
    refine for_list (xs := zs) (fun j σ Hz => ∃ z8 z9 z10 z11, σ = [some (.ref p), some (.ref q), some (.int many), some (.ref l), some (.ref ad), y5, y6, y7, z8, z9, z10, z11] ∧ LnI H q Hz (L1 ++ [rowT wd ns] ++ (es.take j).map fun e => formsT edgeW e.1 e.2.2 e.2.1) ∧ Hz p5 = some (.lst zs)) ⟨y8, x9, x10, x11, rfl, by rw [List.take_zero, List.map_nil, List.append_nil]; exact I5, e5⟩ (fun j σ Hz _ ⟨_, _, _, _, _, _, e⟩ => SqL.of e) ?_ ?_
    · rintro j x σ Hz hx ⟨z8, z9, z10, z11, rfl, I6, e6⟩
      obtain ⟨d, ed, rd'⟩ := rz.get' hx
      rw [List.getElem?_map] at ed
      obtain ⟨g, en, rfl⟩ := Option.map_eq_some_iff.mp ed
      obtain ⟨o1, o2, o3⟩ := hes g (List.mem_of_getElem? en)
      obtain ⟨ra, fs, rk⟩ := g
      dsimp only at o1 o2 o3
      rw [show (es.take (j + 1)).map (fun e => formsT edgeW e.1 e.2.2 e.2.1) = (es.take j).map (fun e => formsT edgeW e.1 e.2.2 e.2.1) ++ [formsT edgeW ra rk fs] by rw [List.take_add_one, en]; simp, ← List.append_assoc]
      have hcl : (L1 ++ [rowT wd ns] ++ (es.take j).map fun e => formsT edgeW e.1 e.2.2 e.2.1).length ≤ 200 := by
        simp only [List.length_append, List.length_map, List.length_take, List.length_cons, List.length_nil]
        omega
      generalize (L1 ++ [rowT wd ns] ++ (es.take j).map fun e => formsT edgeW e.1 e.2.2 e.2.1) = L2' at I6 hcl
      obtain ⟨t5, us, rfl, ht5, rus⟩ := rep_tup_inv (show Rep H (.tup [.int ra, formsD fs, .int rk]) x from rd')
      obtain ⟨v0, zr, rfl, r0, rus⟩ := reps_cons_inv rus
      obtain ⟨v1, zr, rfl, r1, rus⟩ := reps_cons_inv rus
      obtain ⟨v2, zr, rfl, r2, rus⟩ := reps_cons_inv rus
      obtain rfl := reps_nil_inv rus
      obtain rfl := rep_int_inv r0
      obtain rfl := rep_int_inv r2
      refine rd_gtup (I6.1 _ _ ht5) rfl ?_
      walk_at "rd"
      refine ⟨.inl ⟨rfl, _, SqL.of I6.2⟩, ?_⟩
      have la := o1.len
      have lb := o2.len
      walk_at "rd"
      refine rd_strI (sm_log o1.sm) ?_
      refine rd_addS (big_le (show 5 + (numS ra).length ≤ _ by omega)) ?_
      walk_at "rd"
      refine rd_addS (big_le (by rw [len_app]; show 5 + (numS ra).length + 1 ≤ _; omega)) ?_
      walk_at "rd"
      refine rd_strI (sm_log o2.sm) ?_
      refine rd_addS (big_le (by rw [len_app, len_app]; show 5 + (numS ra).length + 1 + (numS rk).length ≤ _; omega)) ?_
      walk_at "rd"
      refine rd_append I6.2 (Nat.lt_of_le_of_lt (show (L2'.map V.str).length ≤ 1000 by rw [List.length_map]; omega) (by decide)) ?_
      have e2 : Str.ofString "edge " ++ (toString ra : Str) ++ Str.ofString " " ++ (toString rk : Str) = formsT edgeW ra rk [] := (forms_nil edgeW ra rk).symm
      rw [e2]
      have I7 := I6.app (z := formsT edgeW ra rk []) nq
      have e7 : upd Hz q (.lst (L2'.map V.str ++ [V.str (formsT edgeW ra rk [])])) p5 = some (.lst zs) := by rw [upd_ne n5]; exact e6
      generalize upd Hz q (.lst (L2'.map V.str ++ [V.str (formsT edgeW ra rk [])])) = H7 at I7 e7
      walk_at "rd"
      obtain ⟨af, xf, rfl, haf, rxf⟩ := rep_tup_inv r1
      refine itK_of (SqT.of (I7.1 _ _ haf)) ?_
      have hxl := rxf.length
      rw [List.length_map] at hxl
      refine for_tup (xs := xf) (fun m σ Hw => ∃ z8, σ = [some (.ref p), some (.ref q), some (.int many), some (.ref l), some (.ref ad), y5, y6, y7, z8, some (.int ra), some (.ref af), some (.int rk)] ∧ LnI H q Hw (L2' ++ [formsT edgeW ra rk (fs.take m)]) ∧ Hw p5 = some (.lst zs)) ⟨z8, rfl, I7, e7⟩ (fun m σ Hw _ ⟨_, _, I, _⟩ => SqT.of (I.1 _ _ haf)) ?_ ?_
      · rintro m x σ Hw hx ⟨z8, rfl, I8, e8⟩
        obtain ⟨d, ed, rdm⟩ := rxf.get' hx
        rw [List.getElem?_map] at ed
        obtain ⟨g, en, rfl⟩ := Option.map_eq_some_iff.mp ed
        have hg := o3.2 g (List.mem_of_getElem? en)
        have l1 := forms_len (w := edgeW) (by decide) o1 o2 (o3.cut m)
        have l2 := form_len hg
        walk_at "rd"
        refine rd_last I8 ?_
        walk_at "rd"
        refine rd_addS (big_le (show (formsT edgeW ra rk (fs.take m)).length + 1 ≤ _ by omega)) ?_
        walk_at "rd"
        refine use1 ⟨g, rdm.mono I8.1.ts, hg, fun H9 s9 => ?_⟩
        refine rd_addS (big_le (by rw [len_app]; show (formsT edgeW ra rk (fs.take m)).length + 1 + _ ≤ _; omega)) ?_
        walk_at "rd"
        refine rd_setLastA nq (I8.to s9) (s9 _ _ e8) n5 fun Ha Ia ea => ?_
        refine ⟨_, rfl, ?_, ea⟩
        rw [List.take_add_one, en]
        have e := forms_snoc edgeW ra rk (fs.take m) g
        rw [show fs.take m ++ (some g).toList = fs.take m ++ [g] from rfl, e]
        exact Ia
      · rintro σ Hw ⟨z8, rfl, I8, e8⟩
        rw [← hxl, List.take_length] at I8
        exact ⟨_, _, _, _, rfl, I8, e8⟩
    · rintro σ Hz ⟨z8, z9, z10, z11, rfl, I6, _⟩
      rw [← hzl, List.take_length] at I6
      exact ⟨_, _, _, _, _, _, _, _, _, _, rfl, I6⟩
  · rintro σ Hx ⟨x2, x3, x4, x5, x6, x7, x8, x9, x10, x11, rfl, I⟩
    rw [← hvl, List.take_length] at I
    obtain ⟨c1, c2⟩ := lane_len ok
    have c3 := sum_le c2
    walk_at "rd"
    refine ⟨rfl, ?_⟩
    walk_at "rd"
    refine rd_join (zs := (sts.map standL).flatten) (SqL.of I.2) (by decide) (by omega) ?_
    rw [show Str.join (Str.ofString "\n") (sts.map standL).flatten = laneT sts from (lane_lines sts).symm]
    exact k _ I.1

end
end My

end
section
set_option Elab.async false
set_option linter.all false
set_option maxRecDepth 100000
set_option maxHeartbeats 4000000

namespace My
open PySem L2

section
variable {P : Program} {w : World} {K : PySem.W.Frag} {mg : Str → Option Value} {base : Heap}
/-- likeness to a depth, as _law_alike finds it -/
noncomputable def AlM (H : Hp) : Nat → V → V → Prop
  | 0, _, _ => False
  | n + 1, x, y => (x = y ∧ ((∃ i, x = .int i) ∨ ∃ z, x = .str z)) ∨ ∃ a b xs ys, x = .ref a ∧ y = .ref b ∧ ((H a = some (.lst xs) ∧ H b = some (.lst ys)) ∨ (H a = some (.tup xs) ∧ H b = some (.tup ys))) ∧ xs.length = ys.length ∧ xs.length ≤ 1000000 ∧ ∀ (i : Nat) u v, xs[i]? = some u → ys[i]? = some v → AlM H n u v
theorem AlM.mono {H H' : Hp} (s : Same H H') : ∀ {n : Nat} {x y : V}, AlM H n x y → AlM H' n x y
  | 0, _, _, h => h
  | n + 1, x, y, h => by
    rcases h with h | ⟨a, b, xs, ys, e1, e2, h, el, hl, hd⟩
    · exact .inl h
    · refine .inr ⟨a, b, xs, ys, e1, e2, ?_, el, hl, fun i u v h1 h2 => (hd i u v h1 h2).mono s⟩
      rcases h with ⟨h1, h2⟩ | ⟨h1, h2⟩
      · exact .inl ⟨s _ _ h1, s _ _ h2⟩
      · exact .inr ⟨s _ _ h1, s _ _ h2⟩
noncomputable def spAl (n : Nat) : Sp := sp2 fun x y H Q => AlM H n x y ∧ ∀ H', Same H H' → Q (.bl true) H'
theorem sc__law_alike : FnScope ["found", "due"] ["found", "due"] (defScope s__law_alike) := ⟨rfl, rfl, rfl, by decide +kernel, rfl, by decide +kernel, by decide +kernel⟩
theorem al_0 (T__law_alike : TopFn K mg "_law_alike" s__law_alike ["found", "due"]) : Callee P w K mg base "_law_alike" 1 ["found", "due"] (spAl 0) :=
  T__law_alike.ok2 sc__law_alike fun f cdv A outer s H v1 v2 Q E hr h => h.1.elim
theorem all_true : ∀ {bs : List Bool}, (∀ b ∈ bs, b = true) → bs.all _root_.id = true := fun h => List.all_eq_true.mpr fun b hb => h b hb
theorem al_step {n lev : Nat} (B : Blt mg) (T__law_alike : TopFn K mg "_law_alike" s__law_alike ["found", "due"]) (C_law_alike : Callee P w K mg base "_law_alike" lev ["found", "due"] (spAl n)) : Callee P w K mg base "_law_alike" (lev + 1) ["found", "due"] (spAl (n + 1)) := by
  refine T__law_alike.ok2 sc__law_alike fun f cdv A outer s H v1 v2 Q E hr h => ?_
  have nd := sc__law_alike.nd
  obtain ⟨h, k⟩ := h
  refine' go_body [some v1, some v2] rfl ?hb ?hg
  case hb =>
   refine' pss_cons ?zb ?zc
   case zb =>
    refine' ps_if ?zd ?ze ?zf
    case zd =>
     refine' pt_val ?zg
     case zg =>
      refine' pe_callB ?zh ?zi ?zj ?zk ?zl
      case zh => exact call_isi2
      case zi => exact (by rfl)
      case zj => exact B.b_isinstance
      case zk => exact bt_isinstance
      case zl =>
       refine' pa_consN ?zm ?zn
       case zm => exact (pv 1)
       case zn =>
        refine' pa_consT ?zo ?zp
        case zo =>
         refine' pe_tup ?zq
         case zq => exact (pa_consN (pe_bltn (v := .ty "list") (by rfl) B.b_list bt_list rfl) (pa_consN (pe_bltn (v := .ty "tuple") (by rfl) B.b_tuple bt_tuple rfl) pa_nil))
        case zp => exact pa_nil
    case ze =>
     refine' pss_cons ?zr ?zs
     case zr =>
      refine' ps_if ?zt ?zu ?zv
      case zt =>
       refine' PW.pt ?zw
       case zw =>
        refine' pw_or ?zx ?zy
        case zx =>
         refine' pt_not ?zz
         case zz =>
          refine' pt_val ?zba
          case zba =>
           refine' pe_callB ?zbb ?zbc ?zbd ?zbe ?zbf
           case zbb => exact call_isi2
           case zbc => exact (by rfl)
           case zbd => exact B.b_isinstance
           case zbe => exact bt_isinstance
           case zbf =>
            refine' pa_consN ?zbg ?zbh
            case zbg => exact (pv 0)
            case zbh =>
             refine' pa_consT ?zbi ?zbj
             case zbi =>
              refine' pe_tup ?zbk
              case zbk => exact (pa_consN (pe_bltn (v := .ty "list") (by rfl) B.b_list bt_list rfl) (pa_consN (pe_bltn (v := .ty "tuple") (by rfl) B.b_tuple bt_tuple rfl) pa_nil))
             case zbj => exact pa_nil
        case zy =>
         refine' pw_or1 ?zbl
         case zbl =>
          refine' pt_cmpR ?zbm ?zbn ?zbo ?zbp
          case zbm => exact op_ne
          case zbn =>
           refine' pe_callB ?zbq ?zbr ?zbs ?zbt ?zbu
           case zbq => exact call_isi
           case zbr => exact (by rfl)
           case zbs => exact B.b_isinstance
           case zbt => exact bt_isinstance
           case zbu => exact (pa_consN (pv 0) (pa_consN (pe_bltn (v := .ty "list") (by rfl) B.b_list bt_list rfl) pa_nil))
          case zbo =>
           refine' pe_callB ?zbv ?zbw ?zbx ?zby ?zbz
           case zbv => exact call_isi
           case zbw => exact (by rfl)
           case zbx => exact B.b_isinstance
           case zby => exact bt_isinstance
           case zbz => exact (pa_consN (pv 1) (pa_consN (pe_bltn (v := .ty "list") (by rfl) B.b_list bt_list rfl) pa_nil))
          case zbp => exact (nomark _)
      case zu => exact (pss_one (ps_ret pe_bl))
      case zv => exact pss_nil
     case zs =>
      refine' pss_cons ?zca ?zcb
      case zca =>
       refine' ps_if ?zcc ?zcd ?zce
       case zcc =>
        refine' pt_cmpR ?zcf ?zcg ?zch ?zci
        case zcf => exact op_ne
        case zcg => exact (pe_callB (k_len (K := K) rfl) (by rfl) B.b_len bt_len (pa_consN (pv 0) pa_nil))
        case zch => exact (pe_callB (k_len (K := K) rfl) (by rfl) B.b_len bt_len (pa_consN (pv 1) pa_nil))
        case zci => exact (nomark _)
       case zcd => exact (pss_one (ps_ret pe_bl))
       case zce => exact pss_nil
      case zcb =>
       refine' pss_one ?zcj
       case zcj =>
        refine' ps_ret ?zck
        case zck =>
         refine' pe_callB ?zcl ?zcm ?zcn ?zco ?zcp
         case zcl => exact (k_all (K := K) rfl rfl)
         case zcm => exact (by rfl)
         case zcn => exact B.b_all
         case zco => exact bt_all
         case zcp =>
          refine' pa_consM ?zcq ?zcr
          case zcq =>
           refine' pe_comp (LN := ["k"]) (FN := ["found", "due"]) (fr := [0, 1]) ?zcs ?zct ?zcu ?zcv ?zcw ?zcx
           case zcs => exact rfl
           case zct => exact (bk_of (by rfl))
           case zcu => exact (pi_range1 rfl B.b_range (pa_consC (pe_callB (k_len (K := K) rfl) (by rfl) B.b_len bt_len (pa_consN (pv 1) pa_nil)) pa_nil))
           case zcv =>
            intro cl C fp pins s H
            exact (pg_name (i := 0) (show ((["k"] : List Str) ++ (["found", "due"] : List Str)).Nodup by decide +kernel) rfl (Or.inl rfl))
           case zcw =>
            intro cl C fp pins s H
            exact pts_nil
           case zcx =>
            intro cl C fp pins s H
            refine' pe_fn ?zcy ?zcz ?zda ?zdb
            case zcy => exact C_law_alike
            case zcz => exact (hr.mono (by first | decide | omega))
            case zda => exact (by rfl)
            case zdb => exact (pa_consS (pe_ix (k_ix (K := K) rfl) (pv 1) (pv 0) (fun _ _ => rfl)) (pa_consS (pe_ix (k_ix (K := K) rfl) (pv 2) (pv 0) (fun _ _ => rfl)) pa_nil))
          case zcr => exact pa_nil
    case zf => exact pss_nil
   case zc =>
    refine' pss_cons ?zdc ?zdd
    case zdc =>
     refine' ps_if ?zde ?zdf ?zdg
     case zde =>
      refine' PW.pt ?zdh
      case zdh =>
       refine' pw_or ?zdi ?zdj
       case zdi =>
        refine' pt_cmpR ?zdk ?zdl ?zdm ?zdn
        case zdk => exact op_ne
        case zdl =>
         refine' pe_callB ?zdo ?zdp ?zdq ?zdr ?zds
         case zdo => exact call_isi
         case zdp => exact (by rfl)
         case zdq => exact B.b_isinstance
         case zdr => exact bt_isinstance
         case zds => exact (pa_consN (pv 0) (pa_consN (pe_bltn (v := .ty "bool") (by rfl) B.b_bool bt_bool rfl) pa_nil))
        case zdm =>
         refine' pe_callB ?zdt ?zdu ?zdv ?zdw ?zdx
         case zdt => exact call_isi
         case zdu => exact (by rfl)
         case zdv => exact B.b_isinstance
         case zdw => exact bt_isinstance
         case zdx => exact (pa_consN (pv 1) (pa_consN (pe_bltn (v := .ty "bool") (by rfl) B.b_bool bt_bool rfl) pa_nil))
        case zdn => exact (nomark _)
       case zdj =>
        refine' pw_or1 ?zdy
        case zdy =>
         refine' pt_cmpR ?zdz ?zea ?zeb ?zec
         case zdz => exact op_ne
         case zea => exact (pe_callB call_isi (by rfl) B.b_isinstance bt_isinstance (pa_consN (pv 0) (pa_consN (pe_bltn (v := .ty "int") (by rfl) B.b_int bt_int rfl) pa_nil)))
         case zeb => exact (pe_callB call_isi (by rfl) B.b_isinstance bt_isinstance (pa_consN (pv 1) (pa_consN (pe_bltn (v := .ty "int") (by rfl) B.b_int bt_int rfl) pa_nil)))
         case zec => exact (nomark _)
     case zdf => exact (pss_one (ps_ret pe_bl))
     case zdg => exact pss_nil
    case zdd =>
     refine' pss_one ?zed
     case zed =>
      refine' ps_ret ?zee
      case zee =>
       refine' pe_and ?zef ?zeg
       case zef =>
        refine' pe_cmpR ?zeh ?zei ?zej ?zek
        case zeh => exact op_eq
        case zei => exact (pe_callB call_isi (by rfl) B.b_isinstance bt_isinstance (pa_consN (pv 0) (pa_consN (pe_bltn (v := .ty "str") (by rfl) B.b_str bt_str rfl) pa_nil)))
        case zej => exact (pe_callB call_isi (by rfl) B.b_isinstance bt_isinstance (pa_consN (pv 1) (pa_consN (pe_bltn (v := .ty "str") (by rfl) B.b_str bt_str rfl) pa_nil)))
        case zek => exact (nomark _)
       case zeg => exact (pe_one (pe_cmpR op_eq (pv 0) (pv 1) (nomark _)))
  walk_at "rd"
  walk_at "mk"; intro pt hpt
  have st := Same.new (o := .tup [V.ty "list", V.ty "tuple"]) hpt
  have et : upd H pt (.tup [V.ty "list", V.ty "tuple"]) pt = some (.tup [V.ty "list", V.ty "tuple"]) := upd_same
  generalize upd H pt (.tup [V.ty "list", V.ty "tuple"]) = H1 at st et
  walk_at "rd"
  rcases h with ⟨rfl, ⟨i, rfl⟩ | ⟨z, rfl⟩⟩ | ⟨a, b, xs, ys, rfl, rfl, h, el, hl, hd⟩
  · refine rd_isi2 (t := "int") rfl et (rd_bl (iteF ?_))
    walk_at "rd"
    refine rd_isi rfl (by simp) ?_
    walk_at "rd"
    refine rd_isi rfl (by simp) ?_
    walk_at "rd"
    refine iteNS rfl ?_
    walk_at "rd"
    refine rd_isi rfl (by simp) ?_
    walk_at "rd"
    refine rd_isi rfl (by simp) ?_
    walk_at "rd"
    refine iteNS rfl ?_
    walk_at "rd"
    refine rd_isi rfl (by simp) ?_
    walk_at "rd"
    refine rd_isi rfl (by simp) ?_
    walk_at "rd"
    refine ite_dy rfl ?_
    walk_at "rd"
    rw [decide_eq_true rfl]
    exact k _ st
  · refine rd_isi2 (t := "str") rfl et (rd_bl (iteF ?_))
    walk_at "rd"
    refine rd_isi rfl (by simp) ?_
    walk_at "rd"
    refine rd_isi rfl (by simp) ?_
    walk_at "rd"
    refine iteNS rfl ?_
    walk_at "rd"
    refine rd_isi rfl (by simp) ?_
    walk_at "rd"
    refine rd_isi rfl (by simp) ?_
    walk_at "rd"
    refine iteNS rfl ?_
    walk_at "rd"
    refine rd_isi rfl (by simp) ?_
    walk_at "rd"
    refine rd_isi rfl (by simp) ?_
    walk_at "rd"
    refine ite_dy rfl ?_
    walk_at "rd"
    rw [decide_eq_true rfl]
    exact k _ st
  · obtain ⟨t, t1, t2, tt, ix, iy, lx, ly⟩ : ∃ t, (∀ H', Same H1 H' → tyN H' (.ref a) = some t) ∧ (∀ H', Same H1 H' → tyN H' (.ref b) = some t) ∧ (t == "list" || t == "tuple") = true ∧
        (∀ (Q : VK) H' i v, Same H1 H' → xs[i]? = some v → Q v H' → rIxA K (.ref a) (.int (i : Nat)) H' Q) ∧ (∀ (Q : VK) H' i v, Same H1 H' → ys[i]? = some v → Q v H' → rIxA K (.ref b) (.int (i : Nat)) H' Q) ∧
        (∀ (Q : VK) H', Same H1 H' → Q (.int xs.length) H' → rLen K [.ref a] H' Q) ∧ (∀ (Q : VK) H', Same H1 H' → Q (.int xs.length) H' → rLen K [.ref b] H' Q) := by
      rcases h with ⟨h1, h2⟩ | ⟨h1, h2⟩
      · have g1 := st _ _ h1
        have g2 := st _ _ h2
        exact ⟨"list", fun H' s' => tyN_lst (s' _ _ g1), fun H' s' => tyN_lst (s' _ _ g2), rfl, fun Q H' i v s' e q => rd_ixaL (s' _ _ g1) (atI_at rfl e) q, fun Q H' i v s' e q => rd_ixaL (s' _ _ g2) (atI_at rfl e) q, fun Q H' s' q => rd_lenL' (SqL.of (s' _ _ g1)) q, fun Q H' s' q => rd_lenL' (SqL.of (s' _ _ g2)) (by rw [← el]; exact q)⟩
      · have g1 := st _ _ h1
        have g2 := st _ _ h2
        exact ⟨"tuple", fun H' s' => tyN_tup (s' _ _ g1), fun H' s' => tyN_tup (s' _ _ g2), rfl, fun Q H' i v s' e q => rd_ixaT (s' _ _ g1) (atI_at rfl e) q, fun Q H' i v s' e q => rd_ixaT (s' _ _ g2) (atI_at rfl e) q, fun Q H' s' q => rd_lenT' (SqT.of (s' _ _ g1)) q, fun Q H' s' q => rd_lenT' (SqT.of (s' _ _ g2)) (by rw [← el]; exact q)⟩
    refine rd_isi2T (t2 _ (Same.refl _)) et tt (rd_bl (iteT ?_))
    walk_at "rd"
    walk_at "mk"; intro pu hpu
    have su := Same.new (o := .tup [V.ty "list", V.ty "tuple"]) hpu
    have eu : upd H1 pu (.tup [V.ty "list", V.ty "tuple"]) pu = some (.tup [V.ty "list", V.ty "tuple"]) := upd_same
    generalize upd H1 pu (.tup [V.ty "list", V.ty "tuple"]) = H2 at su eu
    walk_at "rd"
    refine rd_isi2T (t1 _ su) eu tt (rd_bl (iteNT ?_))
    walk_at "rd"
    refine rd_isi (t1 _ su) (by simp) ?_
    walk_at "rd"
    refine rd_isi (t2 _ su) (by simp) ?_
    walk_at "rd"
    refine iteNS rfl ?_
    walk_at "rd"
    refine lx _ _ su ?_
    walk_at "rd"
    refine ly _ _ su ?_
    walk_at "rd"
    refine iteNS rfl ?_
    walk_at "rd"
    refine ly _ _ su ?_
    walk_at "rd"
    refine irK_of (by omega) (by omega) ?_
    refine cw_range (n := (xs.length : Int).toNat) (by rw [PySem.sizeLine_eq]; omega) (fun j zs σ Hy => (∃ x1, σ = [x1, some (.ref a), some (.ref b)]) ∧ Same H2 Hy ∧ zs = (List.replicate j true).map V.bl) ⟨⟨none, rfl⟩, Same.refl _, rfl⟩ ?_ ?_
    · rintro j zs σ Hy hj hle hlt ⟨⟨x1, rfl⟩, sy, rfl⟩
      have hj' : j < xs.length := by omega
      have e1 := List.getElem?_eq_getElem hj'
      have e2 := List.getElem?_eq_getElem (el ▸ hj' : j < ys.length)
      walk_at "rd"
      rw [show (0 : Int) + (j : Int) = (j : Int) by omega]
      refine ix _ _ j _ (su.trans sy) e1 ?_
      walk_at "rd"
      refine iy _ _ j _ (su.trans sy) e2 ?_
      walk_at "rd"
      refine use2 ⟨(hd j _ _ e1 e2).mono ((st.trans su).trans sy), fun H4 s4 => ?_⟩
      refine ⟨hlt, by simpa using hle, ⟨_, rfl⟩, sy.trans s4, ?_⟩
      rw [List.replicate_succ', List.map_append]
      rfl
    · rintro zs σ Hy _ ⟨⟨x1, rfl⟩, sy, rfl⟩ pz hpz
      walk_at "rd"
      refine ⟨pz, _, rfl, SqL.of upd_same, ?_⟩
      rw [all_true fun b hb => (List.mem_replicate.mp hb).2]
      exact k _ (((st.trans su).trans sy).trans (Same.new hpz))
/-- data of a depth, all its tuples not too long -/
noncomputable def AlD : Nat → D → Prop
  | 0, _ => False
  | n + 1, d => (∃ i, d = .int i) ∨ (∃ z, d = .str z) ∨ ∃ ds, d = .tup ds ∧ ds.length ≤ 1000000 ∧ ∀ e ∈ ds, AlD n e
theorem al_D {H : Hp} : ∀ {n : Nat} {d : D} {x y : V}, AlD n d → Rep H d x → Rep H d y → AlM H n x y
  | 0, _, _, _, h, _, _ => h.elim
  | n + 1, d, x, y, h, r1, r2 => by
    rcases h with ⟨i, rfl⟩ | ⟨z, rfl⟩ | ⟨ds, rfl, hl, hd⟩
    · obtain rfl := rep_int_inv r1
      obtain rfl := rep_int_inv r2
      exact .inl ⟨rfl, .inl ⟨i, rfl⟩⟩
    · rw [Rep] at r1 r2
      subst r1; subst r2
      exact .inl ⟨rfl, .inr ⟨z, rfl⟩⟩
    · obtain ⟨a, xs, rfl, ha, rx⟩ := rep_tup_inv r1
      obtain ⟨b, ys, rfl, hb, ry⟩ := rep_tup_inv r2
      refine .inr ⟨a, b, xs, ys, rfl, rfl, .inr ⟨ha, hb⟩, rx.length.symm.trans ry.length, by rw [← rx.length]; exact hl, fun i u v eu ev => ?_⟩
      obtain ⟨d, e1, q1⟩ := rx.get' eu
      obtain ⟨d', e2, q2⟩ := ry.get' ev
      rw [e1] at e2
      cases e2
      exact al_D (hd d (List.mem_of_getElem? e1)) q1 q2

end
end My

end
section
set_option Elab.async false
set_option linter.all false
set_option maxRecDepth 100000
set_option maxHeartbeats 4000000

namespace My
open PySem L2

section
variable {P : Program} {w : World} {K : PySem.W.Frag} {mg : Str → Option Value} {base : Heap}
theorem jn_asc {c : Nat} (hc : c < 128) : ∀ {ps : List (List Nat)}, (∀ p ∈ ps, ∀ x ∈ p, x < 128) → ∀ x ∈ jn c ps, x < 128
  | [], _, x, hx => by cases hx
  | [p], h, x, hx => h p List.mem_cons_self x hx
  | a :: b :: r, h, x, hx => by
    rcases List.mem_append.mp (show x ∈ a ++ c :: jn c (b :: r) from hx) with z | z
    · exact h a List.mem_cons_self x z
    · rcases List.mem_cons.mp z with rfl | z
      · exact hc
      · exact jn_asc hc (fun p hp => h p (List.mem_cons_of_mem _ hp)) x z
theorem cut_sum (l : List Nat) (k : Nat) : (l.take k).sum + (l.drop k).sum = l.sum := by rw [← List.sum_append, List.take_append_drop]
noncomputable def sp_again : Sp := sp2 fun x y H Q => ∃ t L pk p0 p1 p2, x = .str t ∧ isAsc t ∧ t.length ≤ L ∧ L ≤ 440000 ∧ y = .ref pk ∧ H pk = some (.lst [.int p0, .int p1, .int p2]) ∧ ∀ t' H', isAsc t' → t'.length ≤ 2 * L + 1 → Same H H' → Q (.str t') H'
theorem sc__law_line_again : FnScope ["text", "pick", "lines", "at", "other"] ["text", "pick"] (defScope s__law_line_again) := ⟨rfl, rfl, rfl, by decide +kernel, rfl, by decide +kernel, by decide +kernel⟩
theorem c__law_line_again (B : Blt mg) (T__law_line_again : TopFn K mg "_law_line_again" s__law_line_again ["text", "pick"]) : Callee P w K mg base "_law_line_again" 1 ["text", "pick"] sp_again := by
  refine T__law_line_again.ok2 sc__law_line_again fun f cdv A outer s H v1 v2 Q E hr h => ?_
  have nd := sc__law_line_again.nd
  obtain ⟨z, L, pk, q0, q1, q2, rfl, az, hz, hL, rfl, hpk, k⟩ := h
  refine' go_body [some (.str z), some (.ref pk), none, none, none] rfl ?hb ?hg
  case hb =>
   refine' pss_cons ?zb ?zc
   case zb =>
    refine' ps_setC (i := 2) ?zd ?ze ?zf ?zg
    case zd => exact nd
    case ze => exact rfl
    case zf => exact (Or.inl rfl)
    case zg => exact (k_bm (K := K) rfl PySem.F.plainAttrs_str PySem.F.slot_str_split PySem.F.type_str_split mt_split (pv 0) (pa_consK pe_str pa_nil))
   case zc =>
    refine' pss_cons ?zh ?zi
    case zh =>
     refine' ps_setB (i := 3) ?zj ?zk ?zl ?zm
     case zj => exact nd
     case zk => exact rfl
     case zl => exact (Or.inl rfl)
     case zm =>
      refine' pe_op ?zn ?zo ?zp
      case zn => exact op_mod
      case zo => exact (pe_ix (k_ix (K := K) rfl) (pv 1) pe_int (fun _ _ => rfl))
      case zp => exact (pe_callB (k_len (K := K) rfl) (by rfl) B.b_len bt_len (pa_consN (pv 2) pa_nil))
    case zi =>
     refine' pss_cons ?zq ?zr
     case zq =>
      refine' ps_setB (i := 4) ?zs ?zt ?zu ?zv
      case zs => exact nd
      case zt => exact rfl
      case zu => exact (Or.inl rfl)
      case zv =>
       refine' pe_op ?zw ?zx ?zy
       case zw => exact op_mod
       case zx => exact (pe_ix (k_ix (K := K) rfl) (pv 1) pe_int (fun _ _ => rfl))
       case zy => exact (pe_op op_add (pe_callB (k_len (K := K) rfl) (by rfl) B.b_len bt_len (pa_consN (pv 2) pa_nil)) pe_int)
     case zr =>
      refine' pss_one ?zz
      case zz =>
       refine' ps_ret ?zba
       case zba =>
        refine' k_bm (K := K) ?zbb ?zbc ?zbd ?zbe ?zbf ?zbg ?zbh
        case zbb => exact rfl
        case zbc => exact PySem.F.plainAttrs_str
        case zbd => exact PySem.F.slot_str_join
        case zbe => exact PySem.F.type_str_join
        case zbf => exact (k_join (K := K) rfl)
        case zbg => exact pe_str
        case zbh =>
         refine' pa_consB ?zbi ?zbj
         case zbi =>
          refine' pe_op ?zbk ?zbl ?zbm
          case zbk => exact op_cat
          case zbl =>
           refine' pe_op ?zbn ?zbo ?zbp
           case zbn => exact op_cat
           case zbo => exact (pe_slice (k_sl (K := K) rfl) (pv 2) po_none (po_some (pv 4)))
           case zbp => exact (pe_lst (pa_consS (pe_ix (k_ix (K := K) rfl) (pv 2) (pv 3) (fun _ _ => rfl)) pa_nil))
          case zbm => exact (pe_slice (k_sl (K := K) rfl) (pv 2) (po_some (pv 4)) po_none)
         case zbj => exact pa_nil
  walk_at "rd"
  refine ⟨rfl, ?_⟩
  walk_at "rd"
  refine rd_split (by decide) (big_le (by omega)) fun p1 hp1 => ?_
  rw [show (Str.ofString "\n") = (⟨#[10]⟩ : Str) from feed_eq]
  have hjs := StrLaws.join_split z ⟨#[10]⟩
  have hpart : ∀ p ∈ Txt.split z ⟨#[10]⟩, isAsc p ∧ p.length ≤ z.length := fun p hp => ⟨asc_part hp az, (split_part hp).2⟩
  have hne := split_ne z ⟨#[10]⟩
  generalize Txt.split z ⟨#[10]⟩ = lines at hjs hpart hne
  have hsz := join_size (c := 10) hne
  rw [hjs] at hsz
  have hll : 0 < lines.length := List.length_pos_iff.mpr hne
  have e1 : upd H p1 (.lst (lines.map V.str)) p1 = some (.lst (lines.map V.str)) := upd_same
  have s1 := Same.new (o := .lst (lines.map V.str)) hp1
  generalize upd H p1 (.lst (lines.map V.str)) = H1 at s1 e1
  obtain ⟨i, ei, hi⟩ : ∃ i : Nat, q1 % ((lines.map V.str).length : Int) = i ∧ i < lines.length := by
    rw [List.length_map]
    have h1 := Int.emod_nonneg q1 (show (lines.length : Int) ≠ 0 by omega)
    have h2 := Int.emod_lt_of_pos q1 (show 0 < (lines.length : Int) by omega)
    exact ⟨(q1 % (lines.length : Int)).toNat, by omega, by omega⟩
  obtain ⟨j, ej, hj⟩ : ∃ j : Nat, q2 % (((lines.map V.str).length : Int) + 1) = j ∧ j ≤ lines.length := by
    rw [List.length_map]
    have h1 := Int.emod_nonneg q2 (show (lines.length : Int) + 1 ≠ 0 by omega)
    have h2 := Int.emod_lt_of_pos q2 (show 0 < (lines.length : Int) + 1 by omega)
    exact ⟨(q2 % ((lines.length : Int) + 1)).toNat, by omega, by omega⟩
  have gi : lines[i]? = some lines[i] := List.getElem?_eq_getElem hi
  generalize lines[i] = x at gi
  have gi' : (lines.map V.str)[i]? = some (V.str x) := by rw [List.getElem?_map, gi]; rfl
  walk_at "rd"
  refine rd_ixaL (s1 _ _ hpk) (v := .int q1) (atI_at (n := 1) rfl rfl) ?_
  walk_at "rd"
  refine rd_lenL' (SqL.of e1) ?_
  walk_at "rd"
  refine rd_I (show (0 : Int) < _ by rw [List.length_map]; omega) ?_
  rw [ei]
  walk_at "rd"
  refine rd_ixaL (s1 _ _ hpk) (v := .int q2) (atI_at (n := 1 + 1) rfl rfl) ?_
  walk_at "rd"
  refine rd_lenL' (SqL.of e1) ?_
  walk_at "rd"
  refine rd_I (show (0 : Int) < _ by rw [List.length_map]; omega) ?_
  rw [ej]
  walk_at "rd"
  refine ⟨rfl, ?_⟩
  walk_at "rd"
  refine rd_slL (SqL.of e1) fun p2 hp2 => ?_
  rw [cut_toA, ← List.map_take]
  have s2 := Same.new (o := .lst ((lines.take j).map V.str)) hp2
  have e2 : upd H1 p2 (.lst ((lines.take j).map V.str)) p2 = some (.lst ((lines.take j).map V.str)) := upd_same
  generalize upd H1 p2 (.lst ((lines.take j).map V.str)) = H2 at s2 e2
  walk_at "rd"
  refine rd_ixaL (s2 _ _ e1) (v := .str x) (atI_at (n := i) rfl gi') ?_
  walk_at "rd"
  walk_at "mk"; intro p3 hp3
  have s3 := Same.new (o := .lst [V.str x]) hp3
  have e3 : upd H2 p3 (.lst [V.str x]) p3 = some (.lst [V.str x]) := upd_same
  generalize upd H2 p3 (.lst [V.str x]) = H3 at s3 e3
  have htl : (lines.take j).length ≤ lines.length := by rw [List.length_take]; omega
  have hdl : (lines.drop j).length ≤ lines.length := by rw [List.length_drop]; omega
  refine rd_cat (s3 _ _ e2) e3 (big_le (by rw [List.length_map]; simp only [List.length_cons, List.length_nil]; omega)) fun p4 hp4 => ?_
  rw [show (lines.take j).map V.str ++ [V.str x] = (lines.take j ++ [x]).map V.str by rw [List.map_append]; rfl]
  have s4 := Same.new (o := .lst ((lines.take j ++ [x]).map V.str)) hp4
  have e4 : upd H3 p4 (.lst ((lines.take j ++ [x]).map V.str)) p4 = some (.lst ((lines.take j ++ [x]).map V.str)) := upd_same
  generalize upd H3 p4 (.lst ((lines.take j ++ [x]).map V.str)) = H4 at s4 e4
  have s24 := (s2.trans s3).trans s4
  walk_at "rd"
  refine rd_slL (SqL.of (s24 _ _ e1)) fun p5 hp5 => ?_
  rw [cut_fromA, ← List.map_drop]
  have s5 := Same.new (o := .lst ((lines.drop j).map V.str)) hp5
  have e5 : upd H4 p5 (.lst ((lines.drop j).map V.str)) p5 = some (.lst ((lines.drop j).map V.str)) := upd_same
  generalize upd H4 p5 (.lst ((lines.drop j).map V.str)) = H5 at s5 e5
  refine rd_cat (s5 _ _ e4) e5 (big_le (by simp only [List.length_map, List.length_append, List.length_cons, List.length_nil]; omega)) fun p6 hp6 => ?_
  rw [← List.map_append]
  have hmm : ∀ y ∈ lines.take j ++ [x] ++ lines.drop j, y ∈ lines := fun y hy => by
    rcases List.mem_append.mp hy with hy | hy
    · rcases List.mem_append.mp hy with hy | hy
      · exact List.mem_of_mem_take hy
      · rw [List.mem_singleton.mp hy]; exact List.mem_of_getElem? gi
    · exact List.mem_of_mem_drop hy
  have hsum : ((lines.take j ++ [x] ++ lines.drop j).map (·.length)).sum = (lines.map (·.length)).sum + x.length := by
    have := cut_sum (lines.map (·.length)) j
    rw [← List.map_take, ← List.map_drop] at this
    simp only [List.map_append, List.sum_append, List.map_cons, List.map_nil, List.sum_cons, List.sum_nil]
    omega
  have hlen : (lines.take j ++ [x] ++ lines.drop j).length = lines.length + 1 := by
    simp only [List.length_append, List.length_take, List.length_drop, List.length_cons, List.length_nil]
    omega
  have hne2 : lines.take j ++ [x] ++ lines.drop j ≠ [] := fun e => by rw [e] at hlen; exact absurd hlen (by show (0 : Nat) ≠ _; omega)
  have hsz2 := join_size (c := 10) hne2
  have hx := (hpart x (List.mem_of_getElem? gi)).2
  generalize lines.take j ++ [x] ++ lines.drop j = ls at hmm hsum hlen hsz2
  walk_at "rd"
  refine rd_join (zs := ls) (SqL.of upd_same) (by decide) (by omega) ?_
  try rw [show (Str.ofString "\n") = (⟨#[10]⟩ : Str) from feed_eq]
  refine k _ _ ?_ (by omega) (((s1.trans s24).trans s5).trans (Same.new hp6))
  rw [asc_mem, cs_join]
  refine jn_asc (by decide) fun p hp => ?_
  obtain ⟨q, hq, rfl⟩ := List.mem_map.mp hp
  exact asc_mem.mp (hpart q (hmm q hq)).1

end
end My

end
section
set_option Elab.async false
set_option linter.all false
set_option maxRecDepth 100000
set_option maxHeartbeats 4000000

namespace My
open PySem L2

section
variable {P : Program} {w : World} {K : PySem.W.Frag} {mg : Str → Option Value} {base : Heap}
/-! ### the law's signs and runs -/
noncomputable def sp_any_sign : Sp := sp1 fun x H Q => ∃ b l, x = .ref b ∧ BagAt H b l ∧ ∀ c H', c < 128 → BagAt H' b l → BSame b H H' → Q (.str ⟨#[c]⟩) H'
noncomputable def signsA : Str := "0123456789- \n;:abcdefghijklmnopqrstuvwxyzABCDEFGHIJKLMNOPQRSTUVWXYZ"
noncomputable def signsB : Str := "!\"#$&'()*+,./<=>?\x40[\\]^_`{|}~"
theorem signs_len : (signsA ++ signsB).length = 95 := by decide +kernel
theorem signs_asc : ∀ c ∈ cs (signsA ++ signsB), c < 128 := by decide +kernel
theorem sc__law_any_sign : FnScope ["bag", "some"] ["bag"] (defScope s__law_any_sign) := ⟨rfl, rfl, rfl, by decide +kernel, rfl, by decide +kernel, by decide +kernel⟩
theorem c__law_any_sign (B : Blt mg) (T__law_any_sign : TopFn K mg "_law_any_sign" s__law_any_sign ["bag"]) (C_law_draw : Callee P w K mg base "_law_draw" 1 ["bag", "many"] sp_draw) : Callee P w K mg base "_law_any_sign" 2 ["bag"] sp_any_sign := by
  refine T__law_any_sign.ok1 sc__law_any_sign fun f cdv A outer s H v1 Q E hr h => ?_
  have nd := sc__law_any_sign.nd
  obtain ⟨b, l, rfl, Bg, k⟩ := h
  refine' go_body [some (.ref b), none] rfl ?hb ?hg
  case hb =>
   refine' pss_cons ?zb ?zc
   case zb => exact (ps_set (i := 1) nd rfl (Or.inl rfl) pe_str)
   case zc =>
    refine' pss_cons ?zd ?ze
    case zd => exact (ps_setB (i := 1) nd rfl (Or.inl rfl) (pe_op op_addS (pv 1) pe_str))
    case ze =>
     refine' pss_cons ?zf ?zg
     case zf =>
      refine' ps_if ?zh ?zi ?zj
      case zh => exact (pt_cmpR op_eq (pe_fn C_law_draw (hr.mono (by first | decide | omega)) (by rfl) (pa_consN (pv 0) (pa_consK pe_int pa_nil))) pe_int (nomark _))
      case zi =>
       refine' pss_one ?zk
       case zk =>
        refine' ps_ret ?zl
        case zl => exact (pe_ix ix_str (pv 1) (pe_fn C_law_draw (hr.mono (by first | decide | omega)) (by rfl) (pa_consN (pv 0) (pa_consK pe_int pa_nil))) (fun _ _ => rfl))
      case zj => exact pss_nil
     case zg =>
      refine' pss_one ?zm
      case zm =>
       refine' ps_ret ?zn
       case zn => exact (pe_ix ix_str (pv 1) (pe_fn C_law_draw (hr.mono (by first | decide | omega)) (by rfl) (pa_consN (pv 0) (pa_consK pe_int pa_nil))) (fun _ _ => rfl))
  walk_at "rd"
  refine rd_addS (i := signsA) (j := signsB) (by rw [← len_app, signs_len, PySem.sizeLine_eq]; decide) ?_
  walk_at "rd"
  have pick : ∀ (r : Int), 0 ≤ r → r < 95 → ∃ c, atI (signsA ++ signsB).cps.toList r = some c ∧ c < 128 := by
    intro r h0 h1
    obtain ⟨n, rfl⟩ := Int.eq_ofNat_of_zero_le h0
    have hn : n < (cs (signsA ++ signsB)).length := by rw [cs_len, signs_len]; omega
    exact ⟨_, atI_at (n := n) rfl (List.getElem?_eq_getElem hn), signs_asc _ (List.getElem_mem hn)⟩
  have hsz : (signsA ++ signsB).length ≤ PySem.sizeLine := by rw [signs_len, PySem.sizeLine_eq]; decide
  refine use2 ⟨b, l, 2, rfl, rfl, ⟨by decide, by decide⟩, Bg, fun r1 H1 g0 g1 B1 b1 => ?_⟩
  walk_at "rd"
  refine ite_dd (fun _ => ?_) (fun _ => ?_)
  · walk_at "rd"
    refine use2 ⟨b, l, 15, rfl, rfl, ⟨by decide, by decide⟩, B1, fun r2 H2 h0 h1 B2 b2 => ?_⟩
    obtain ⟨c, e, hc⟩ := pick r2 h0 (by omega)
    exact ⟨_, r2, c, rfl, rfl, hsz, e, k c H2 hc B2 (b1.trans b2)⟩
  · walk_at "rd"
    refine use2 ⟨b, l, 95, rfl, rfl, ⟨by decide, by decide⟩, B1, fun r2 H2 h0 h1 B2 b2 => ?_⟩
    obtain ⟨c, e, hc⟩ := pick r2 h0 (by omega)
    exact ⟨_, r2, c, rfl, rfl, hsz, e, k c H2 hc B2 (b1.trans b2)⟩
theorem asc_one {c : Nat} (h : c < 128) : isAsc ⟨#[c]⟩ := asc_mem.mpr fun d hd => by
  rw [show d = c from List.mem_singleton.mp hd]; exact h
theorem len_one {c : Nat} : (⟨#[c]⟩ : Str).length = 1 := rfl
noncomputable def sp_run : Sp := sp1 fun x H Q => ∃ b l, x = .ref b ∧ BagAt H b l ∧ ∀ z H', isAsc z → z.length ≤ 12 → BagAt H' b l → BSame b H H' → Q (.str z) H'
theorem sc__law_run : FnScope ["bag", "way", "many"] ["bag"] (defScope s__law_run) := ⟨rfl, rfl, rfl, by decide +kernel, rfl, by decide +kernel, by decide +kernel⟩
theorem c__law_run (B : Blt mg) (T__law_run : TopFn K mg "_law_run" s__law_run ["bag"]) (C_law_draw : Callee P w K mg base "_law_draw" 1 ["bag", "many"] sp_draw) (C_law_any_sign : Callee P w K mg base "_law_any_sign" 2 ["bag"] sp_any_sign) : Callee P w K mg base "_law_run" 3 ["bag"] sp_run := by
  refine T__law_run.ok1 sc__law_run fun f cdv A outer s H v1 Q E hr h => ?_
  have nd := sc__law_run.nd
  obtain ⟨b, l, rfl, Bg, k⟩ := h
  refine' go_body [some (.ref b), none, none] rfl ?hb ?hg
  case hb =>
   refine' pss_cons ?zo ?zp
   case zo => exact (ps_setC (i := 1) nd rfl (Or.inl rfl) (pe_fn C_law_draw (hr.mono (by first | decide | omega)) (by rfl) (pa_consN (pv 0) (pa_consK pe_int pa_nil))))
   case zp =>
    refine' pss_cons ?zq ?zr
    case zq => exact (ps_setC (i := 2) nd rfl (Or.inl rfl) (pe_fn C_law_draw (hr.mono (by first | decide | omega)) (by rfl) (pa_consN (pv 0) (pa_consK pe_int pa_nil))))
    case zr =>
     refine' pss_cons ?zs ?zt
     case zs => exact (ps_if (pt_cmpR op_eq (pv 1) pe_int (nomark _)) (pss_one (ps_ret (pe_op op_repS pe_str (pv 2)))) pss_nil)
     case zt =>
      refine' pss_cons ?zu ?zv
      case zu =>
       refine' ps_if ?zw ?zx ?zy
       case zw => exact (pt_cmpR op_eq (pv 1) pe_int (nomark _))
       case zx => exact (pss_one (ps_ret (pe_op op_repS (pe_fn C_law_any_sign (hr.mono (by first | decide | omega)) (by rfl) (pa_consN (pv 0) pa_nil)) (pv 2))))
       case zy => exact pss_nil
      case zv =>
       refine' pss_one ?zz
       case zz =>
        refine' ps_ret ?zba
        case zba =>
         refine' k_bm (K := K) ?zbb ?zbc ?zbd ?zbe ?zbf ?zbg ?zbh
         case zbb => exact rfl
         case zbc => exact PySem.F.plainAttrs_str
         case zbd => exact PySem.F.slot_str_join
         case zbe => exact PySem.F.type_str_join
         case zbf => exact (k_join (K := K) rfl)
         case zbg => exact pe_str
         case zbh =>
          refine' pa_consM ?zbi ?zbj
          case zbi =>
           refine' pe_comp (LN := ["k"]) (FN := ["bag"]) (fr := [0]) ?zbk ?zbl ?zbm ?zbn ?zbo ?zbp
           case zbk => exact rfl
           case zbl => exact (bk_of (by rfl))
           case zbm => exact (pi_range1 rfl B.b_range (pa_consN (pv 2) pa_nil))
           case zbn =>
            intro cl C fp pins s H
            exact (pg_name (i := 0) (show ((["k"] : List Str) ++ (["bag"] : List Str)).Nodup by decide +kernel) rfl (Or.inl rfl))
           case zbo =>
            intro cl C fp pins s H
            exact pts_nil
           case zbp =>
            intro cl C fp pins s H
            exact (pe_fn C_law_any_sign (hr.mono (by first | decide | omega)) (by rfl) (pa_consN (pv 1) pa_nil))
          case zbj => exact pa_nil
  walk_at "rd"
  refine use2 ⟨b, l, 3, rfl, rfl, ⟨by decide, by decide⟩, Bg, fun way H1 g0 g1 B1 b1 => ?_⟩
  walk_at "rd"
  refine use2 ⟨b, l, 13, rfl, rfl, ⟨by decide, by decide⟩, B1, fun many H2 h0 h1 B2 b2 => ?_⟩
  have b12 := b1.trans b2
  walk_at "rd"
  refine ite_dd (fun _ => ?_) (fun _ => ?_)
  · walk_at "rd"
    refine rd_repS (by omega) (by omega) (by decide) fun hl => ?_
    exact k _ _ (asc_rep (asc_one (c := 32) (by decide))) (by have : (Str.ofString " ").length = 1 := by decide
                                                              rw [this] at hl; omega) B2 b12
  walk_at "rd"
  refine ite_dd (fun _ => ?_) (fun _ => ?_)
  · walk_at "rd"
    refine use1 ⟨b, l, rfl, B2, fun c H3 hc B3 b3 => ?_⟩
    walk_at "rd"
    refine rd_repS (by omega) (by omega) (by rw [len_one]; decide) fun hl => ?_
    exact k _ _ (asc_rep (asc_one hc)) (by rw [len_one] at hl; omega) B3 (b12.trans b3)
  walk_at "rd"
  refine ⟨rfl, ?_⟩
  walk_at "rd"
  refine irK_of (by omega) (by omega) ?_
  refine cw_range (n := many.toNat) (small_le (by omega)) (fun j ys σ Hy => (∃ x1, σ = [x1, some (.ref b)]) ∧ ∃ zs : List Str, ys = zs.map V.str ∧ zs.length = j ∧ (∀ z ∈ zs, isAsc z ∧ z.length = 1) ∧ BagAt Hy b l ∧ BSame b H2 Hy) ⟨⟨none, rfl⟩, [], rfl, rfl, by simp, B2, BSame.refl _ _⟩ ?_ ?_
  · rintro j ys σ Hy hj hle hlt ⟨⟨x1, rfl⟩, zs, rfl, hz, hb, By, bY⟩
    walk_at "rd"
    refine use1 ⟨b, l, rfl, By, fun c H6 hc B6 b6 => ?_⟩
    refine ⟨hlt, by simpa using hle, ⟨_, rfl⟩, zs ++ [⟨#[c]⟩], by simp, by simp [hz], fun z hz' => ?_, B6, bY.trans b6⟩
    rcases List.mem_append.mp hz' with hz' | hz'
    · exact hb z hz'
    · rw [List.mem_singleton.mp hz']; exact ⟨asc_one hc, len_one⟩
  rintro ys σ Hy _ ⟨⟨x1, rfl⟩, zs, rfl, hz, hb, By, bY⟩ p6 hp6
  have s6 := Same.new (o := .lst (zs.map V.str)) hp6
  have hsum : (zs.map (·.length)).sum ≤ zs.length := by
    have : ∀ (l : List Str), (∀ z ∈ l, z.length = 1) → (l.map (·.length)).sum ≤ l.length := by
      intro l
      induction l with
      | nil => intro _; exact Nat.le_refl _
      | cons z l ih =>
        intro h
        have h1 := h z List.mem_cons_self
        have h2 := ih fun x hx => h x (List.mem_cons_of_mem _ hx)
        simp only [List.map_cons, List.sum_cons, List.length_cons]
        omega
    exact this zs fun z hz' => (hb z hz').2
  walk_at "rd"
  refine rd_join (zs := zs) (SqL.of upd_same) (by decide) (by omega) ?_
  refine k _ _ (asc_join (asc_mem.mpr (by decide)) fun z hz' => (hb z hz').1) ?_ (By.mono s6) ((b12.trans bY).to s6)
  have := StrLaws.join_length_le (Str.ofString "") zs
  have h0' : (Str.ofString "").length = 0 := by decide
  rw [h0'] at this
  omega

noncomputable def sp_bent_text : Sp := sp3 fun x y z H Q => ∃ t L pk p0 p1 p2 b l, x = .str t ∧ isAsc t ∧ t.length ≤ L ∧ L ≤ 900000 ∧ y = .ref pk ∧ H pk = some (.lst [.int p0, .int p1, .int p2]) ∧ pk ≠ b ∧ z = .ref b ∧ BagAt H b l ∧ ∀ t' H', isAsc t' → t'.length ≤ L + 12 → BagAt H' b l → BSame b H H' → Q (.str t') H'
theorem sc__law_bent_text : FnScope ["text", "pick", "bag", "at", "starts", "gone"] ["text", "pick", "bag"] (defScope s__law_bent_text) := ⟨rfl, rfl, rfl, by decide +kernel, rfl, by decide +kernel, by decide +kernel⟩
theorem c__law_bent_text (B : Blt mg) (T__law_bent_text : TopFn K mg "_law_bent_text" s__law_bent_text ["text", "pick", "bag"]) (C_law_any_sign : Callee P w K mg base "_law_any_sign" 2 ["bag"] sp_any_sign) (C_law_run : Callee P w K mg base "_law_run" 3 ["bag"] sp_run) : Callee P w K mg base "_law_bent_text" 4 ["text", "pick", "bag"] sp_bent_text := by
  refine T__law_bent_text.ok3 sc__law_bent_text fun f cdv A outer s H v1 v2 v3 Q E hr h => ?_
  have nd := sc__law_bent_text.nd
  have hu := hr.units
  obtain ⟨t, L, pk, p0, p1, p2, b, l, rfl, tasc, hL, hL9, rfl, hpk, npk, rfl, Bg, k⟩ := h
  have big : ∀ {n : Nat}, n ≤ 1000000 → n ≤ PySem.sizeLine := fun h => by rw [PySem.sizeLine_eq]; omega
  refine' go_body [some (.str t), some (.ref pk), some (.ref b), none, none, none] rfl ?hb ?hg
  case hb =>
   refine' pss_cons ?zbq ?zbr
   case zbq =>
    refine' ps_setB (i := 3) ?zbs ?zbt ?zbu ?zbv
    case zbs => exact nd
    case zbt => exact rfl
    case zbu => exact (Or.inl rfl)
    case zbv =>
     refine' pe_op ?zbw ?zbx ?zby
     case zbw => exact op_mod
     case zbx => exact (pe_ix (k_ix (K := K) rfl) (pv 1) pe_int (fun _ _ => rfl))
     case zby => exact (pe_op op_add (pe_callB (k_len (K := K) rfl) (by rfl) B.b_len bt_len (pa_consN (pv 0) pa_nil)) pe_int)
   case zbr =>
    refine' pss_cons ?zbz ?zca
    case zbz =>
     refine' ps_if ?zcb ?zcc ?zcd
     case zcb => exact (pt_cmpR op_eq (pe_ix (k_ix (K := K) rfl) (pv 1) pe_int (fun _ _ => rfl)) pe_int (nomark _))
     case zcc =>
      refine' pss_one ?zce
      case zce =>
       refine' ps_ret ?zcf
       case zcf =>
        refine' pe_op ?zcg ?zch ?zci
        case zcg => exact op_addS
        case zch =>
         refine' pe_op ?zcj ?zck ?zcl
         case zcj => exact op_addS
         case zck => exact (pe_slice sl_str (pv 0) po_none (po_some (pv 3)))
         case zcl => exact (pe_fn C_law_any_sign (hr.mono (by first | decide | omega)) (by rfl) (pa_consN (pv 2) pa_nil))
        case zci => exact (pe_slice sl_str (pv 0) (po_some (pv 3)) po_none)
     case zcd => exact pss_nil
    case zca =>
     refine' pss_cons ?zcm ?zcn
     case zcm =>
      refine' ps_if ?zco ?zcp ?zcq
      case zco => exact (pt_cmpR op_eq (pe_ix (k_ix (K := K) rfl) (pv 1) pe_int (fun _ _ => rfl)) pe_int (nomark _))
      case zcp =>
       refine' pss_one ?zcr
       case zcr => exact (ps_ret (pe_op op_addS (pe_slice sl_str (pv 0) po_none (po_some (pv 3))) (pe_slice sl_str (pv 0) (po_some (pe_op op_add (pv 3) pe_int)) po_none)))
      case zcq => exact pss_nil
     case zcn =>
      refine' pss_cons ?zcs ?zct
      case zcs =>
       refine' ps_if ?zcu ?zcv ?zcw
       case zcu => exact (pt_cmpR op_eq (pe_ix (k_ix (K := K) rfl) (pv 1) pe_int (fun _ _ => rfl)) pe_int (nomark _))
       case zcv =>
        refine' pss_one ?zcx
        case zcx =>
         refine' ps_ret ?zcy
         case zcy =>
          refine' pe_op ?zcz ?zda ?zdb
          case zcz => exact op_addS
          case zda =>
           refine' pe_op ?zdc ?zdd ?zde
           case zdc => exact op_addS
           case zdd => exact (pe_slice sl_str (pv 0) po_none (po_some (pv 3)))
           case zde => exact (pe_fn C_law_any_sign (hr.mono (by first | decide | omega)) (by rfl) (pa_consN (pv 2) pa_nil))
          case zdb => exact (pe_slice sl_str (pv 0) (po_some (pe_op op_add (pv 3) pe_int)) po_none)
       case zcw => exact pss_nil
      case zct =>
       refine' pss_cons ?zdf ?zdg
       case zdf =>
        refine' ps_if ?zdh ?zdi ?zdj
        case zdh => exact (pt_cmpR op_eq (pe_ix (k_ix (K := K) rfl) (pv 1) pe_int (fun _ _ => rfl)) pe_int (nomark _))
        case zdi =>
         refine' pss_cons ?zdk ?zdl
         case zdk =>
          refine' ps_setB (i := 4) ?zdm ?zdn ?zdo ?zdp
          case zdm => exact nd
          case zdn => exact rfl
          case zdo => exact (Or.inl rfl)
          case zdp =>
           refine' pe_op ?zdq ?zdr ?zds
           case zdq => exact op_cat
           case zdr => exact (pe_lst (pa_consK pe_int pa_nil))
           case zds =>
            refine' pe_comp (LN := ["k"]) (FN := ["text"]) (fr := [0]) ?zdt ?zdu ?zdv ?zdw ?zdx ?zdy
            case zdt => exact rfl
            case zdu => exact (bk_of (by rfl))
            case zdv => exact (pi_range1 rfl B.b_range (pa_consC (pe_callB (k_len (K := K) rfl) (by rfl) B.b_len bt_len (pa_consN (pv 0) pa_nil)) pa_nil))
            case zdw =>
             intro cl C fp pins s H
             exact (pg_name (i := 0) (show ((["k"] : List Str) ++ (["text"] : List Str)).Nodup by decide +kernel) rfl (Or.inl rfl))
            case zdx =>
             intro cl C fp pins s H
             exact (pts_one (pt_cmpR op_eq (pe_ix ix_str (pv 1) (pv 0) (fun _ _ => rfl)) pe_str (nomark _)))
            case zdy =>
             intro cl C fp pins s H
             exact (pe_op op_add (pv 0) pe_int)
         case zdl =>
          refine' pss_one ?zdz
          case zdz =>
           refine' ps_setS (i := 3) ?zea ?zeb ?zec ?zed
           case zea => exact nd
           case zeb => exact rfl
           case zec => exact (Or.inl rfl)
           case zed =>
            refine' pe_ix ?zee ?zef ?zeg ?zeh
            case zee => exact (k_ix (K := K) rfl)
            case zef => exact (pv 4)
            case zeg =>
             refine' pe_op ?zei ?zej ?zek
             case zei => exact op_mod
             case zej => exact (pe_ix (k_ix (K := K) rfl) (pv 1) pe_int (fun _ _ => rfl))
             case zek => exact (pe_callB (k_len (K := K) rfl) (by rfl) B.b_len bt_len (pa_consN (pv 4) pa_nil))
            case zeh => exact (fun _ _ => rfl)
        case zdj => exact pss_nil
       case zdg =>
        refine' pss_cons ?zel ?zem
        case zel =>
         refine' ps_setS (i := 5) ?zen ?zeo ?zep ?zeq
         case zen => exact nd
         case zeo => exact rfl
         case zep => exact (Or.inl rfl)
         case zeq =>
          refine' pe_ix ?zer ?zes ?zet ?zeu
          case zer => exact (k_ix (K := K) rfl)
          case zes =>
           refine' pe_lst ?zev
           case zev =>
            refine' pa_consK ?zew ?zex
            case zew => exact pe_int
            case zex => exact (pa_consK pe_int (pa_consB (pe_op op_mod (pe_op op_fdivB (pe_ix (k_ix (K := K) rfl) (pv 1) pe_int (fun _ _ => rfl)) pe_int) pe_int) pa_nil))
          case zet => exact (pe_op op_mod (pe_ix (k_ix (K := K) rfl) (pv 1) pe_int (fun _ _ => rfl)) pe_int)
          case zeu => exact (fun _ _ => rfl)
        case zem =>
         refine' pss_one ?zey
         case zey =>
          refine' ps_ret ?zez
          case zez =>
           refine' pe_op ?zfa ?zfb ?zfc
           case zfa => exact op_addS
           case zfb =>
            refine' pe_op ?zfd ?zfe ?zff
            case zfd => exact op_addS
            case zfe => exact (pe_slice sl_str (pv 0) po_none (po_some (pv 3)))
            case zff => exact (pe_fn C_law_run (hr.mono (by first | decide | omega)) (by rfl) (pa_consN (pv 2) pa_nil))
           case zfc => exact (pe_slice sl_str (pv 0) (po_some (pe_op op_add (pv 3) (pv 5))) po_none)
  walk_at "rd"
  refine rd_ixaL hpk (v := .int p1) (atI_at (n := 1) rfl rfl) ?_
  walk_at "rd"
  refine rd_lenS' (big (by omega)) ?_
  walk_at "rd"
  refine rd_I (by omega) ?_
  obtain ⟨a, ha⟩ : ∃ a : Nat, p1 % ((t.length : Int) + 1) = a := ⟨_, (Int.toNat_of_nonneg (Int.emod_nonneg _ (by omega))).symm⟩
  have hat : a ≤ t.length := by
    have := Int.emod_lt_of_pos p1 (show (0 : Int) < (t.length : Int) + 1 by omega)
    omega
  rw [ha]
  walk_at "rd"
  refine rd_ixaL hpk (v := .int p0) (atI_at (n := 0) rfl rfl) ?_
  walk_at "rd"
  refine ite_dd (fun _ => ?_) (fun _ => ?_)
  · walk_at "rd"
    refine rd_slTo (by omega) (by omega) fun l1 => ?_
    walk_at "rd"
    refine use1 ⟨b, l, rfl, Bg, fun c H1 hc B1 b1 => ?_⟩
    refine rd_addS (big (by rw [len_one]; omega)) ?_
    walk_at "rd"
    refine rd_slFrom (by omega) (by omega) fun l2 => ?_
    refine rd_addS (big (by rw [len_app, len_one]; omega)) ?_
    exact k _ _ (asc_app (asc_app (asc_slice tasc) (asc_one hc)) (asc_slice tasc)) (by rw [len_app, len_app, len_one]; omega) B1 b1
  walk_at "rd"
  refine rd_ixaL hpk (v := .int p0) (atI_at (n := 0) rfl rfl) ?_
  walk_at "rd"
  refine ite_dd (fun _ => ?_) (fun _ => ?_)
  · walk_at "rd"
    refine rd_slTo (by omega) (by omega) fun l1 => ?_
    walk_at "rd"
    refine rd_slFrom (by omega) (by omega) fun l2 => ?_
    refine rd_addS (big (by omega)) ?_
    exact k _ _ (asc_app (asc_slice tasc) (asc_slice tasc)) (by rw [len_app]; omega) Bg (BSame.refl _ _)
  walk_at "rd"
  refine rd_ixaL hpk (v := .int p0) (atI_at (n := 0) rfl rfl) ?_
  walk_at "rd"
  refine ite_dd (fun _ => ?_) (fun _ => ?_)
  · walk_at "rd"
    refine rd_slTo (by omega) (by omega) fun l1 => ?_
    walk_at "rd"
    refine use1 ⟨b, l, rfl, Bg, fun c H1 hc B1 b1 => ?_⟩
    refine rd_addS (big (by rw [len_one]; omega)) ?_
    walk_at "rd"
    refine rd_slFrom (by omega) (by omega) fun l2 => ?_
    refine rd_addS (big (by rw [len_app, len_one]; omega)) ?_
    exact k _ _ (asc_app (asc_app (asc_slice tasc) (asc_one hc)) (asc_slice tasc)) (by rw [len_app, len_app, len_one]; omega) B1 b1
  refine rd_next ?_
  dsimp only
  refine rd_meet (fun σ Hx => ∃ (a : Nat) (c4 : Option V), σ = [some (.str t), some (.ref pk), some (.ref b), some (.int a), c4, none] ∧ a ≤ t.length ∧ Same H Hx) ?_ fun N hN => ?_
  rotate_left
  · walk_at "rd"
    refine rd_ixaL hpk (v := .int p0) (atI_at (n := 0) rfl rfl) ?_
    walk_at "rd"
    refine ite_dd (fun _ => ?_) (fun _ => ?_)
    · walk_at "rd"
      walk_at "mk"; intro q1 hq1
      have s1 := Same.new (o := .lst [V.int 0]) hq1
      have e1 : upd H q1 (.lst [V.int 0]) q1 = some (.lst [V.int 0]) := upd_same
      generalize upd H q1 (.lst [V.int 0]) = H1 at s1 e1
      walk_at "rd"
      refine rd_lenS' (big (by omega)) ?_
      walk_at "rd"
      refine irK_of (by omega) (by omega) ?_
      refine cw_range (n := ((t.length : Nat) : Int).toNat) (big (by omega)) (fun j ys σ Hz => (∃ x1, σ = [x1, some (.str t)]) ∧ Hz = H1 ∧ ∃ ms : List Nat, ys = ms.map (fun m : Nat => V.int (m : Int)) ∧ (∀ m ∈ ms, m ≤ j) ∧ ms.length ≤ j) ⟨⟨none, rfl⟩, rfl, [], rfl, by simp, Nat.le_refl _⟩ ?_ ?_
      · rintro j ys σ Hz hj hle hlt ⟨⟨x1, rfl⟩, rfl, ms, rfl, hm, hml⟩
        have hjl : j < (cs t).length := by rw [cs_len]; omega
        walk_at "rd"
        refine ⟨t, _, (cs t)[j], rfl, rfl, big (by omega), atI_at (n := j) (by simp) (List.getElem?_eq_getElem hjl), ?_⟩
        walk_at "rd"
        refine ite_dd (fun _ => ?_) (fun _ => ?_)
        · walk_at "rd"
          refine ⟨hlt, by simpa using hle, ⟨_, rfl⟩, rfl, ms ++ [j + 1], by simp, fun m hm' => ?_, by simp; omega⟩
          rcases List.mem_append.mp hm' with hm' | hm'
          · have := hm m hm'; omega
          · rw [List.mem_singleton.mp hm']; exact Nat.le_refl _
        · exact ⟨by simpa using Nat.le_succ_of_le hle, ⟨_, rfl⟩, rfl, ms, rfl, fun m hm' => by have := hm m hm'; omega, by omega⟩
      rintro ys σ Hz _ ⟨⟨x1, rfl⟩, rfl, ms, rfl, hm, hml⟩ p3 hp3
      have s3 := Same.new (o := .lst (ms.map fun m : Nat => V.int (m : Int))) hp3
      have e3 : upd Hz p3 (.lst (ms.map fun m : Nat => V.int (m : Int))) p3 = some (.lst (ms.map fun m : Nat => V.int (m : Int))) := upd_same
      generalize upd Hz p3 (.lst (ms.map fun m : Nat => V.int (m : Int))) = H3 at s3 e3
      refine rd_cat (s3 _ _ e1) e3 (big (by simp; omega)) fun p4 hp4 => ?_
      have s4 := Same.new (o := .lst ([V.int 0] ++ ms.map fun m : Nat => V.int (m : Int))) hp4
      have e4 : upd H3 p4 (.lst ([V.int 0] ++ ms.map fun m : Nat => V.int (m : Int))) p4 = some (.lst ((0 :: ms).map fun m : Nat => V.int (m : Int))) := upd_same
      generalize upd H3 p4 (.lst ([V.int 0] ++ ms.map fun m : Nat => V.int (m : Int))) = H4 at s4 e4
      have s14 := (s1.trans s3).trans s4
      walk_at "rd"
      refine rd_ixaL (s14 _ _ hpk) (v := .int p1) (atI_at (n := 1) rfl rfl) ?_
      walk_at "rd"
      refine rd_lenL' (SqL.of e4) ?_
      walk_at "rd"
      refine rd_I (by simp) ?_
      have hpos : (0 : Int) < (((0 :: ms).map fun m : Nat => V.int (m : Int)).length : Int) := by simp
      obtain ⟨i, hi⟩ : ∃ i : Nat, p1 % (((0 :: ms).map fun m : Nat => V.int (m : Int)).length : Int) = i := ⟨_, (Int.toNat_of_nonneg (Int.emod_nonneg _ (by omega))).symm⟩
      have hil : i < (0 :: ms).length := by
        have := Int.emod_lt_of_pos p1 hpos
        rw [hi, List.length_map] at this
        omega
      rw [hi]
      refine rd_ixaL e4 (v := .int ((0 :: ms)[i] : Nat)) (atI_at (n := i) rfl (by rw [List.getElem?_map, List.getElem?_eq_getElem hil]; rfl)) ?_
      walk_at "rd"
      refine hN _ _ ⟨(0 :: ms)[i], _, rfl, ?_, s14⟩
      rcases List.mem_cons.mp (List.getElem_mem hil) with e | e
      · rw [e]; exact Nat.zero_le _
      · have := hm _ e; omega
    · walk_at "rd"
      exact hN _ _ ⟨a, _, rfl, hat, Same.refl _⟩
  rintro σ Hx ⟨a, c4, rfl, hat, sx⟩
  walk_at "rd"
  refine rd_ixaL (sx _ _ hpk) (v := .int p2) (atI_at (n := 2) rfl rfl) ?_
  walk_at "rd"
  refine rd_I (cdivb_of (by decide) (by decide +kernel)) ?_
  walk_at "rd"
  refine rd_I (by decide) ?_
  walk_at "rd"
  walk_at "mk"; intro q5 hq5
  have B5 := (Bg.mono sx).mono (Same.new (o := .lst [V.int 0, V.int 0, V.int (p2 / 3 % 13)]) hq5)
  have s5 := Same.new (o := .lst [V.int 0, V.int 0, V.int (p2 / 3 % 13)]) hq5
  have e5 : upd Hx q5 (.lst [V.int 0, V.int 0, V.int (p2 / 3 % 13)]) q5 = some (.lst [V.int 0, V.int 0, V.int (p2 / 3 % 13)]) := upd_same
  generalize upd Hx q5 (.lst [V.int 0, V.int 0, V.int (p2 / 3 % 13)]) = H5 at s5 e5 B5
  have sx5 := sx.trans s5
  walk_at "rd"
  refine rd_ixaL (sx5 _ _ hpk) (v := .int p2) (atI_at (n := 2) rfl rfl) ?_
  walk_at "rd"
  refine rd_I (by decide) ?_
  obtain ⟨g, hg, hge⟩ : ∃ g : Nat, g ≤ 12 ∧ atI [V.int 0, V.int 0, V.int (p2 / 3 % 13)] (p2 % 3) = some (V.int (g : Int)) := by
    have h1 := Int.emod_nonneg p2 (show (3 : Int) ≠ 0 by decide)
    have h2 := Int.emod_lt_of_pos p2 (show (0 : Int) < 3 by decide)
    have h3 := Int.emod_nonneg (p2 / 3) (show (13 : Int) ≠ 0 by decide)
    have h4 := Int.emod_lt_of_pos (p2 / 3) (show (0 : Int) < 13 by decide)
    rcases (show p2 % 3 = 0 ∨ p2 % 3 = 1 ∨ p2 % 3 = 2 by omega) with e | e | e
    · exact ⟨0, by decide, atI_at (n := 0) (by rw [e]; rfl) rfl⟩
    · exact ⟨0, by decide, atI_at (n := 1) (by rw [e]; rfl) rfl⟩
    · exact ⟨(p2 / 3 % 13).toNat, by omega, atI_at (n := 2) (by rw [e]; rfl) (by simp; omega)⟩
  refine rd_ixaL e5 hge ?_
  walk_at "rd"
  refine rd_slTo (by omega) (by omega) fun l1 => ?_
  walk_at "rd"
  refine use1 ⟨b, l, rfl, B5, fun zr H6 az lz B6 b6 => ?_⟩
  refine rd_addS (big (by omega)) ?_
  walk_at "rd"
  refine rd_slFrom (by omega) (by omega) fun l2 => ?_
  refine rd_addS (big (by rw [len_app]; omega)) ?_
  exact k _ _ (asc_app (asc_app (asc_slice tasc) az) (asc_slice tasc)) (by rw [len_app, len_app]; omega) B6 ((BSame.of sx5).trans b6)

end
end My

end
section
set_option Elab.async false
set_option linter.all false
set_option maxRecDepth 100000
set_option maxHeartbeats 4000000

namespace My
open PySem L2

section
variable {P : Program} {w : World} {K : PySem.W.Frag} {mg : Str → Option Value} {base : Heap}
noncomputable def sp_lread : Sp := sp1 fun x H Q => ∃ z, x = .str z ∧ z.length ≤ 900000 ∧ isAsc z ∧ (∀ sts p q e ys H', laneP z = some sts → H' q = some (.lst ys) → SAll H' sts ys → H' p = some (.tup [.ref q, .ref e]) → H' e = some (.lst []) → Same H H' → Q (.ref p) H') ∧
  ∀ p q H', laneP z = none → H' p = some (.tup [.non, .ref q]) → H' q = some (.lst [.bl true, .bl true, .bl false]) → Same H H' → Q (.ref p) H'
theorem sc__law_read : FnScope ["text", "found", "told", "e"] ["text"] (defScope s__law_read) := ⟨rfl, rfl, rfl, by decide +kernel, rfl, by decide +kernel, by decide +kernel⟩
theorem c__law_read {C_NoText C_LaneError C_NotFormed C_Faulty : Addr} (B : Blt mg) (HX : ExH K mg C_NoText C_LaneError C_NotFormed C_Faulty) (T__law_read : TopFn K mg "_law_read" s__law_read ["text"]) (Cread_lane : CalleeX P w K mg base C_NoText "read_lane" 9 ["text"] (sp_read_lane C_NoText)) : Callee P w K mg base "_law_read" 10 ["text"] sp_lread := by
  refine T__law_read.ok1 sc__law_read fun f cdv A outer s H v1 Q E hr h => ?_
  have nd := sc__law_read.nd
  obtain ⟨z, rfl, hz, az, k1, k2⟩ := h
  refine' go_body [some (.str z), none, none, none] rfl ?hb ?hg
  case hb =>
   refine' pss_cons ?zb ?zc
   case zb => exact (ps_set (i := 1) nd rfl (Or.inl rfl) pe_non)
   case zc =>
    refine' pss_cons ?zd ?ze
    case zd => exact (ps_setL (i := 2) nd rfl (Or.inl rfl) (pe_lst pa_nil))
    case ze =>
     refine' pss_cons ?zf ?zg
     case zf =>
      refine' ps_tryC (i := 1) (j := 3) ?zh ?zi ?zj ?zk ?zl ?zm ?zn ?zo ?zp ?zq ?zr ?zs ?zt ?zu ?zv ?zw ?zx
      case zh => exact Cread_lane
      case zi => exact (hr.mono (by first | decide | omega))
      case zj => exact rfl
      case zk => exact rfl
      case zl => exact nd
      case zm => exact rfl
      case zn => exact (Or.inl rfl)
      case zo => exact (Or.inl rfl)
      case zp => exact rfl
      case zq => exact rfl
      case zr => exact rfl
      case zs => exact (by rfl)
      case zt => exact (pa_consN (pv 0) pa_nil)
      case zu => exact (by rfl)
      case zv => exact HX.m_LaneError
      case zw => exact HX.x_LaneError
      case zx => exact (fun a oe hc hd => (pss_one (ps_setL (i := 2) nd rfl (Or.inl rfl) (pe_lst (pa_consC (pe_callB (call_isiX rfl hc HX.k) (by rfl) B.b_isinstance bt_isinstance (pa_consN (pv 3) (pa_consN (pe_bltn (v := .ty "ValueError") (by rfl) B.b_ValueError bt_ValueError rfl) pa_nil))) (pa_consC (pe_callB (call_isiX rfl hc HX.k) (by rfl) B.b_isinstance bt_isinstance (pa_consN (pv 3) (pa_consN (pe_glob (v := .ref C_NoText) (by rfl) HX.m_NoText rfl) pa_nil))) (pa_consO (pe_or (pe_callB (call_isiX rfl hc HX.k) (by rfl) B.b_isinstance bt_isinstance (pa_consN (pv 3) (pa_consN (pe_glob (v := .ref C_NotFormed) (by rfl) HX.m_NotFormed rfl) pa_nil))) (pe_one (pe_callB (call_isiX rfl hc HX.k) (by rfl) B.b_isinstance bt_isinstance (pa_consN (pv 3) (pa_consN (pe_glob (v := .ref C_Faulty) (by rfl) HX.m_Faulty rfl) pa_nil))))) pa_nil)))))))
     case zg => exact (pss_one (ps_ret (pe_tup (pa_consN (pv 1) (pa_consN (pv 2) pa_nil)))))
  walk_at "rd"
  walk_at "mk"; intro q hq
  have s0 := Same.new (o := .lst []) hq
  have e0 : upd H q (.lst []) q = some (.lst []) := upd_same
  generalize upd H q (.lst []) = H0 at s0 e0
  walk_at "rd"
  refine useX1 ⟨z, rfl, hz, az, fun sts hw pq ys H1 eq1 sa s1 => ?_, fun hw H1 s1 a ha => ?_⟩
  · walk_at "rd"
    walk_at "mk"; intro p hp
    have s2 := Same.new (o := .tup [V.ref pq, V.ref q]) hp
    exact k1 sts p pq q ys _ hw (s2 _ _ eq1) (sa.mono s2) upd_same (s2 _ _ (s1 _ _ e0)) ((s0.trans s1).trans s2)
  · walk_at "rd"
    refine rd_isXT HX.kV ?_
    walk_at "rd"
    refine rd_isX HX.k.kc (fun z => by cases z) ?_
    walk_at "rd"
    refine rd_isX HX.kN (fun _ => HX.nN) ?_
    walk_at "rd"
    refine rd_isX HX.kF (fun _ => HX.nF) ?_
    walk_at "rd"
    walk_at "mk"; intro p2 hp2
    have s2 := Same.new (o := .lst [V.bl true, V.bl true, V.bl false]) hp2
    have e2 : upd H1 p2 (.lst [V.bl true, V.bl true, V.bl false]) p2 = some (.lst [V.bl true, V.bl true, V.bl false]) := upd_same
    generalize upd H1 p2 (.lst [V.bl true, V.bl true, V.bl false]) = H2 at s2 e2
    walk_at "rd"
    walk_at "mk"; intro p hp
    have s3 := Same.new (o := .tup [V.non, V.ref p2]) hp
    exact k2 p p2 _ hw upd_same (s3 _ _ e2) (((s0.trans s1).trans s2).trans s3)

end
end My

end
section
set_option Elab.async false
set_option linter.all false
set_option maxRecDepth 100000
set_option maxHeartbeats 4000000

namespace My
open PySem L2

section
variable {P : Program} {w : World} {K : PySem.W.Frag} {mg : Str → Option Value} {base : Heap}
/-! ### the law's lanes: pure -/
noncomputable def WA (p : Str) : Prop := ∀ c ∈ cs p, c < 128
theorem wa_num (n : Int) : WA (numS n) := fun c hc => by
  have := num_signs n c hc
  omega
theorem wa_form (f : FormI) : WA (fT f) := fun c hc => by
  unfold fT at hc
  rw [semi_eq, cs_join] at hc
  refine jn_asc (by decide) (fun p hp x hx => ?_) c hc
  obtain ⟨q, hq, rfl⟩ := List.mem_map.mp hp
  rcases List.mem_cons.mp hq with rfl | hq
  · exact wa_num _ x hx
  · obtain ⟨r, _, rfl⟩ := List.mem_map.mp hq
    unfold pairT at hx
    rw [cs_app, cs_app, colon_eq] at hx
    rcases List.mem_append.mp hx with hx | hx
    · rcases List.mem_append.mp hx with hx | hx
      · exact wa_num _ x hx
      · rw [List.mem_singleton.mp hx]; decide
    · exact wa_num _ x hx
theorem wa_ln {w : Str} (hw : WA w) (a b : Int) (fs : List FormI) : ∀ p ∈ lnG w a b fs, WA p := fun p hp => by
  rcases List.mem_cons.mp hp with rfl | hp
  · exact hw
  · rcases List.mem_cons.mp hp with rfl | hp
    · exact wa_num _
    · rcases List.mem_cons.mp hp with rfl | hp
      · exact wa_num _
      · obtain ⟨f, _, rfl⟩ := List.mem_map.mp hp
        exact wa_form f
theorem wa_row {w : Str} (hw : WA w) (ns : List Int) : ∀ p ∈ w :: ns.map numS, WA p := fun p hp => by
  rcases List.mem_cons.mp hp with rfl | hp
  · exact hw
  · obtain ⟨f, _, rfl⟩ := List.mem_map.mp hp
    exact wa_num f
theorem deed_mem {w : Str} {ks : List Str} (h : deedT.lookup w = some ks) : (w, ks) ∈ deedT := by
  have : ∀ (l : List (Str × List Str)), l.lookup w = some ks → (w, ks) ∈ l := by
    intro l
    induction l with
    | nil => intro h; cases h
    | cons q l ih =>
      intro h
      obtain ⟨a, b⟩ := q
      rw [List.lookup_cons] at h
      split at h
      · next e => cases h; rw [beq_iff_eq.mp e]; exact List.mem_cons_self
      · exact List.mem_cons_of_mem _ (ih h)
  exact this _ h
theorem lane_asc {l : List StandI} (h : ∀ st ∈ l, WOk st) : isAsc (laneT l) := by
  have hk : ∀ q ∈ deedT, ∀ c ∈ cs q.1, c < 128 := by decide +kernel
  rw [asc_mem, lane_lines, feed_eq, cs_join]
  refine jn_asc (by decide) fun p hp => ?_
  obtain ⟨line, hl, rfl⟩ := List.mem_map.mp hp
  obtain ⟨x, hx, hl⟩ := List.mem_flatten.mp hl
  obtain ⟨st, hst, rfl⟩ := List.mem_map.mp hx
  rw [standL_G] at hl
  obtain ⟨ws, hw, rfl⟩ := List.mem_map.mp hl
  obtain ⟨ks, ek, _⟩ := (h st hst).deed
  have key : ∀ p ∈ ws, WA p := by
    rcases List.mem_cons.mp hw with rfl | hw
    · exact wa_row (by unfold WA; decide) _
    · rcases List.mem_append.mp hw with hw | hw
      · obtain ⟨f, _, rfl⟩ := List.mem_map.mp hw
        exact wa_ln (by unfold WA; decide) _ _ _
      · rcases List.mem_cons.mp hw with rfl | hw
        · exact wa_row (hk _ (deed_mem ek)) _
        · obtain ⟨f, _, rfl⟩ := List.mem_map.mp hw
          exact wa_ln (by unfold WA; decide) _ _ _
  rw [blank_eq, cs_join]
  refine jn_asc (by decide) fun p hp => ?_
  obtain ⟨q, hq, rfl⟩ := List.mem_map.mp hp
  exact key q hq
theorem laneT_len {l : List StandI} (h : ∀ st ∈ l, SB st) (h5 : l.length ≤ 5) (hn : l ≠ []) : (laneT l).length ≤ 100000 := by
  obtain ⟨c1, c2⟩ := lane_len h
  have c3 := sum_le c2
  have hne : (l.map standL).flatten ≠ [] := by
    cases l with
    | nil => exact absurd rfl hn
    | cons d ds => exact List.cons_ne_nil _ _
  have hsz := join_size (c := 10) hne
  rw [← feed_eq, ← lane_lines] at hsz
  omega
theorem deedP_F {ws : List Str} {lines : List (List Str)} {d : DeedI} (h : deedP ws lines = some d) : DeedF d := by
  unfold deedP at h
  cases ws with
  | nil => cases h
  | cons w ws =>
    cases ek : deedT.lookup w with
    | none => simp only [ek] at h; cases h
    | some ks =>
      simp only [ek] at h
      cases en : numsP (ks.countP (· == numberW)) (w :: ws) with
      | none => simp only [en] at h; cases h
      | some ns =>
        simp only [en] at h
        split at h
        · next el =>
          obtain ⟨es, ee, rfl⟩ := Option.map_eq_some_iff.mp h
          obtain ⟨_, _, hl, _⟩ := numsP_back en
          exact ⟨ks, ek, hl, by rw [← el]; exact (mapM_some ee).1.symm⟩
        · cases h
theorem lane_W {z : Str} {sts : List StandI} (h : laneP z = some sts) : laneT sts = z ∧ ∀ st ∈ sts, WOk st := by
  obtain ⟨h1, h2⟩ := lane_back h
  refine ⟨h1, fun st hst => ?_⟩
  obtain ⟨a, b, c, d⟩ := h2 st hst
  refine ⟨a, b, c, d, ?_⟩
  unfold laneP at h
  obtain ⟨gs, _, hm⟩ := Option.bind_eq_some_iff.mp h
  refine (mapM_back (g := fun _ => ()) (k := fun _ : StandI => ()) (ok := fun st : StandI => DeedF st.2.2) (fun g _ st e => ⟨rfl, ?_⟩) hm).2 st hst
  unfold standP at e
  cases g with
  | nil => cases e
  | cons g0 rest =>
    cases en : numsP 1 g0 with
    | none => simp only [en] at e; cases e
    | some ns =>
      simp only [en] at e
      cases ed : rest.dropWhile isFrame with
      | nil => rw [ed] at e; cases e
      | cons dw lines =>
        rw [ed] at e
        obtain ⟨ps, d, _, f2, rfl⟩ := both_some e
        exact deedP_F f2
theorem WOk.st {st : StandI} (h : WOk st) : StOk st := ⟨h.many, h.fr, h.nums, h.eds⟩
theorem ald_pair (q : Int × Int) : AlD 2 (pairD q) := .inr (.inr ⟨_, rfl, by simp, fun e he => by
  rcases List.mem_cons.mp he with rfl | he
  · exact .inl ⟨_, rfl⟩
  · rw [List.mem_singleton.mp he]; exact .inl ⟨_, rfl⟩⟩)
theorem ald_form {f : FormI} (h : f.2.length ≤ 1000000) : AlD 4 (fD f) := .inr (.inr ⟨_, rfl, by simp, fun e he => by
  rcases List.mem_cons.mp he with rfl | he
  · exact .inl ⟨_, rfl⟩
  · rw [List.mem_singleton.mp he]
    refine .inr (.inr ⟨_, rfl, by rw [List.length_map]; exact h, fun e he => ?_⟩)
    obtain ⟨q, _, rfl⟩ := List.mem_map.mp he
    exact ald_pair q⟩)
theorem ald_forms {fs : List FormI} (hl : fs.length ≤ 1000000) (h : ∀ f ∈ fs, f.2.length ≤ 1000000) : AlD 5 (formsD fs) := .inr (.inr ⟨_, rfl, by rw [List.length_map]; exact hl, fun e he => by
  obtain ⟨f, hf, rfl⟩ := List.mem_map.mp he
  exact ald_form (h f hf)⟩)
/-- forms in a line that is not too long -/
theorem ald_line {w : Str} {a b : Int} {fs : List FormI} (h : (formsT w a b fs).length ≤ 900000) : AlD 5 (formsD fs) := by
  have hsz := forms_size w a b fs
  have hm : ∀ f ∈ fs, (fT f).length ≤ 900001 := fun f hf => by
    have := mem_sum (show fT f ∈ rowT w [a, b] :: fs.map fT from List.mem_cons_of_mem _ (List.mem_map.mpr ⟨f, hf, rfl⟩))
    omega
  refine ald_forms ?_ fun f hf => ?_
  · simp only [List.length_cons, List.length_map] at hsz
    omega
  · have h1 := hm f hf
    have h2 := join_size (c := 59) (ps := numS f.1 :: f.2.map pairT) (List.cons_ne_nil _ _)
    rw [← semi_eq] at h2
    simp only [List.length_cons, List.length_map] at h2
    unfold fT at h1
    omega
theorem lane_al {sts : List StandI} (h : (laneT sts).length ≤ 900000) (hw : ∀ st ∈ sts, WOk st) : sts.length ≤ 1000000 ∧ ∀ st ∈ sts, st.2.1.length ≤ 1000000 ∧ (∀ f ∈ st.2.1, AlD 6 (frameD f)) ∧ AlD 7 (deedD st.2.2) := by
  by_cases hn : sts = []
  · subst hn
    exact ⟨by decide, fun st hst => by cases hst⟩
  have hne : (sts.map standL).flatten ≠ [] := by
    cases sts with
    | nil => exact absurd rfl hn
    | cons d ds => exact List.cons_ne_nil _ _
  have hsz := join_size (c := 10) hne
  rw [← feed_eq, ← lane_lines] at hsz
  have hline : ∀ st ∈ sts, ∀ x ∈ standL st, x.length ≤ 900000 := fun st hst x hx => by
    have := mem_sum (List.mem_flatten.mpr ⟨standL st, List.mem_map.mpr ⟨st, hst, rfl⟩, hx⟩)
    have : 0 < ((sts.map standL).flatten).length := List.length_pos_iff.mpr hne
    omega
  have hsub : ∀ st ∈ sts, (standL st).length ≤ ((sts.map standL).flatten).length := fun st hst => (List.sublist_flatten_of_mem (List.mem_map.mpr ⟨st, hst, rfl⟩)).length_le
  have hcnt : ∀ (l : List StandI), l.length ≤ ((l.map standL).flatten).length := by
    intro l
    induction l with
    | nil => exact Nat.le_refl _
    | cons d l ih =>
      rw [List.map_cons, List.flatten_cons, List.length_append]
      simp only [List.length_cons, standL]
      omega
  have h0 := hcnt sts
  refine ⟨by omega, fun st hst => ⟨?_, fun f hf => ?_, ?_⟩⟩
  · have := hsub st hst
    simp only [standL, List.length_cons, List.length_append, List.length_map] at this
    omega
  · refine .inr (.inr ⟨_, rfl, by simp, fun e he => ?_⟩)
    rcases List.mem_cons.mp he with rfl | he
    · exact .inl ⟨_, rfl⟩
    · rcases List.mem_cons.mp he with rfl | he
      · exact .inl ⟨_, rfl⟩
      · rw [List.mem_singleton.mp he]
        exact ald_line (hline st hst (formsT frameW f.1 f.2.1 f.2.2) (List.mem_cons_of_mem _ (List.mem_append_left _ (List.mem_map.mpr ⟨f, hf, rfl⟩))))
  · obtain ⟨_, d2, d3, _⟩ := deed_few (hw st hst).deed
    refine .inr (.inr ⟨_, rfl, by simp only [List.length_cons, List.length_append, List.length_map]; omega, fun e he => ?_⟩)
    rcases List.mem_cons.mp he with rfl | he
    · exact .inr (.inl ⟨_, rfl⟩)
    · rcases List.mem_append.mp he with he | he
      · obtain ⟨n, _, rfl⟩ := List.mem_map.mp he
        exact .inl ⟨_, rfl⟩
      · obtain ⟨g, hg, rfl⟩ := List.mem_map.mp he
        refine .inr (.inr ⟨_, rfl, by simp, fun e he => ?_⟩)
        rcases List.mem_cons.mp he with rfl | he
        · exact .inl ⟨_, rfl⟩
        · rcases List.mem_cons.mp he with rfl | he
          · exact ald_line (hline st hst (formsT edgeW g.1 g.2.2 g.2.1) (List.mem_cons_of_mem _ (List.mem_append_right _ (List.mem_cons_of_mem _ (List.mem_map.mpr ⟨g, hg, rfl⟩)))))
          · rw [List.mem_singleton.mp he]; exact .inl ⟨_, rfl⟩
theorem al_lane {H : Hp} {sts : List StandI} {p q : Addr} {vs ws : List V} (h1 : H p = some (.lst vs)) (h2 : H q = some (.lst ws)) (s1 : SAll H sts vs) (s2 : SAll H sts ws) (hl : sts.length ≤ 1000000) (ha : ∀ st ∈ sts, st.2.1.length ≤ 1000000 ∧ (∀ f ∈ st.2.1, AlD 6 (frameD f)) ∧ AlD 7 (deedD st.2.2)) : AlM H 9 (.ref p) (.ref q) := by
  refine .inr ⟨p, q, vs, ws, rfl, rfl, .inl ⟨h1, h2⟩, s1.1.symm.trans s2.1, by rw [← s1.1]; exact hl, fun i u v eu ev => ?_⟩
  have hi : i < sts.length := by rw [s1.1]; exact (List.getElem?_eq_some_iff.mp eu).1
  have es := List.getElem?_eq_getElem hi
  obtain ⟨a1, a2, a3⟩ := ha _ (List.mem_of_getElem? es)
  obtain ⟨t1, l1, y1, d1, rfl, e1, f1, r1, g1⟩ := s1.2 i _ _ es eu
  obtain ⟨t2, l2, y2, d2, rfl, e2, f2, r2, g2⟩ := s2.2 i _ _ es ev
  refine .inr ⟨t1, t2, _, _, rfl, rfl, .inr ⟨e1, e2⟩, rfl, by simp, fun j u v eu ev => ?_⟩
  rcases j with _ | _ | _ | j
  · simp at eu ev; subst eu; subst ev; exact .inl ⟨rfl, .inl ⟨_, rfl⟩⟩
  · simp at eu ev
    subst eu; subst ev
    have k1 := r1.length
    have k2 := r2.length
    rw [List.length_map] at k1 k2
    refine .inr ⟨l1, l2, y1, y2, rfl, rfl, .inl ⟨f1, f2⟩, by omega, by omega, fun i u v eu ev => ?_⟩
    obtain ⟨x1, c1, b1⟩ := r1.get' eu
    obtain ⟨x2, c2, b2⟩ := r2.get' ev
    rw [c1] at c2
    cases c2
    rw [List.getElem?_map] at c1
    obtain ⟨r, er, rfl⟩ := Option.map_eq_some_iff.mp c1
    exact al_D (a2 r (List.mem_of_getElem? er)) b1 b2
  · simp at eu ev
    subst eu; subst ev
    exact al_D a3 g1 g2
  · simp at eu

end
end My

end
section
set_option Elab.async false
set_option linter.all false
set_option maxRecDepth 100000
set_option maxHeartbeats 4000000

namespace My
open PySem L2

section
variable {P : Program} {w : World} {K : PySem.W.Frag} {mg : Str → Option Value} {base : Heap}
/-- how long a text may have grown -/
noncomputable def LM : Nat → Nat
  | 0 => 100100
  | n + 1 => 2 * LM n + 1
theorem LM_ge : ∀ n, 100100 ≤ LM n
  | 0 => Nat.le_refl _
  | n + 1 => by have := LM_ge n; show _ ≤ 2 * LM n + 1; omega
theorem LM_up : ∀ {m n : Nat}, m ≤ n → LM m ≤ LM n := fun {m n} h => by
  induction h with
  | refl => exact Nat.le_refl _
  | step _ ih => exact Nat.le_trans ih (by show _ ≤ 2 * LM _ + 1; omega)
theorem LM_2 : LM 2 = 400403 := rfl
/-- a pick, as the law draws it -/
noncomputable def PkV (H : Hp) (b pp : Addr) (y : V) : Prop := ∃ pk p0 p1 p2, y = .ref pk ∧ pk ≠ b ∧ pk ≠ pp ∧ H pk = some (.lst [.int p0, .int p1, .int p2])
theorem PkV.bs {H H' : Hp} {b pp : Addr} {y : V} (h : PkV H b pp y) (s : BSame b H H') : PkV H' b pp y := by
  obtain ⟨pk, p0, p1, p2, e, n1, n2, e'⟩ := h
  exact ⟨pk, p0, p1, p2, e, n1, n2, s _ _ n1 e'⟩
theorem sc_law : FnScope ["script", "bag", "picks", "k", "text", "pick", "found", "told", "held", "again"] ["script"] (defScope s_law) := ⟨rfl, rfl, rfl, by decide +kernel, rfl, by decide +kernel, by decide +kernel⟩
theorem law_fn {f : Addr} {fd : FuncData} {C_NoText C_LaneError C_NotFormed C_Faulty : Addr} (B : Blt mg) (G : Glb K w mg) (HX : ExH K mg C_NoText C_LaneError C_NotFormed C_Faulty) (T_read_whole : TopFn K mg "read_whole" s_read_whole ["text", "most"]) (T_read_number : TopFn K mg "read_number" s_read_number ["text"]) (T_read_numbers : TopFn K mg "read_numbers" s_read_numbers ["words", "many"]) (T_read_pair : TopFn K mg "read_pair" s_read_pair ["part"]) (T_read_form : TopFn K mg "read_form" s_read_form ["word"]) (T_read_forms : TopFn K mg "read_forms" s_read_forms ["words"]) (T_read_edge : TopFn K mg "read_edge" s_read_edge ["words"]) (T_read_frame : TopFn K mg "read_frame" s_read_frame ["words"]) (T_read_deed : TopFn K mg "read_deed" s_read_deed ["words", "lines"]) (T_read_stand : TopFn K mg "read_stand" s_read_stand ["group"]) (T_read_lane : TopFn K mg "read_lane" s_read_lane ["text"]) (T_shown_row : TopFn K mg "shown_row" s_shown_row ["word", "numbers"]) (T_shown_form : TopFn K mg "shown_form" s_shown_form ["form"]) (T_shown_forms : TopFn K mg "shown_forms" s_shown_forms ["word", "one", "other", "forms"]) (T_shown_stand : TopFn K mg "shown_stand" s_shown_stand ["stand"]) (T_shown_lane : TopFn K mg "shown_lane" s_shown_lane ["lane"]) (T__law_bag : TopFn K mg "_law_bag" s__law_bag ["script"]) (T__law_draw : TopFn K mg "_law_draw" s__law_draw ["bag", "many"]) (T__law_number : TopFn K mg "_law_number" s__law_number ["bag"]) (T__law_any_sign : TopFn K mg "_law_any_sign" s__law_any_sign ["bag"]) (T__law_run : TopFn K mg "_law_run" s__law_run ["bag"]) (T__law_bent_text : TopFn K mg "_law_bent_text" s__law_bent_text ["text", "pick", "bag"]) (T__law_line_again : TopFn K mg "_law_line_again" s__law_line_again ["text", "pick"]) (T__law_read : TopFn K mg "_law_read" s__law_read ["text"]) (T__law_wild_forms : TopFn K mg "_law_wild_forms" s__law_wild_forms ["bag"]) (T__law_wild_edge : TopFn K mg "_law_wild_edge" s__law_wild_edge ["bag"]) (T__law_wild_lane : TopFn K mg "_law_wild_lane" s__law_wild_lane ["bag"]) (T__law_form_written : TopFn K mg "_law_form_written" s__law_form_written ["form"]) (T__law_lane_written : TopFn K mg "_law_lane_written" s__law_lane_written ["lane"]) (T__law_alike : TopFn K mg "_law_alike" s__law_alike ["found", "due"]) (T_law : Fun K "law" "law" s_law f fd) : FnOk P w K mg base CX0 16 f fd ["script"] (spLaw K) := by
  have Cread_whole := c_read_whole (P := P) (w := w) (base := base) B G HX T_read_whole
  have Cread_number := c_read_number (P := P) (w := w) (base := base) B G HX T_read_number Cread_whole
  have Cread_numbers := c_read_numbers (P := P) (w := w) (base := base) B G HX T_read_numbers Cread_number
  have Cread_pair := c_read_pair (P := P) (w := w) (base := base) B G HX T_read_pair Cread_number
  have Cread_form := c_read_form (P := P) (w := w) (base := base) B G HX T_read_form Cread_number Cread_pair
  have Cread_forms := c_read_forms (P := P) (w := w) (base := base) B G HX T_read_forms Cread_form
  have Cread_edge := c_read_edge (P := P) (w := w) (base := base) B G HX T_read_edge Cread_numbers Cread_forms
  have Cread_frame := c_read_frame (P := P) (w := w) (base := base) B G HX T_read_frame Cread_numbers Cread_forms
  have Cread_deed := c_read_deed (P := P) (w := w) (base := base) B G HX T_read_deed Cread_numbers Cread_edge
  have Cread_stand := c_read_stand (P := P) (w := w) (base := base) B G HX T_read_stand Cread_numbers Cread_frame Cread_deed
  have Cread_lane := c_read_lane (P := P) (w := w) (base := base) B G HX T_read_lane Cread_stand
  have Cshown_row := c_shown_row (P := P) (w := w) (base := base) B T_shown_row
  have Cshown_form := c_shown_form (P := P) (w := w) (base := base) B T_shown_form
  have Cshown_forms := c_shown_forms (P := P) (w := w) (base := base) B T_shown_forms Cshown_row Cshown_form
  have Cshown_stand := c_shown_stand (P := P) (w := w) (base := base) B T_shown_stand Cshown_row Cshown_forms
  have Cshown_lane := c_shown_lane (P := P) (w := w) (base := base) B T_shown_lane Cshown_stand
  have C_law_bag := c__law_bag (P := P) (w := w) (base := base) B T__law_bag
  have C_law_draw := c__law_draw (P := P) (w := w) (base := base) B T__law_draw
  have C_law_number := c__law_number (P := P) (w := w) (base := base) T__law_number C_law_draw
  have C_law_any_sign := c__law_any_sign (P := P) (w := w) (base := base) B T__law_any_sign C_law_draw
  have C_law_run := c__law_run (P := P) (w := w) (base := base) B T__law_run C_law_draw C_law_any_sign
  have C_law_bent_text := c__law_bent_text (P := P) (w := w) (base := base) B T__law_bent_text C_law_any_sign C_law_run
  have C_law_line_again := c__law_line_again (P := P) (w := w) (base := base) B T__law_line_again
  have C_law_read := c__law_read (P := P) (w := w) (base := base) B HX T__law_read Cread_lane
  have C_law_wild_forms := c__law_wild_forms (P := P) (w := w) (base := base) B T__law_wild_forms C_law_draw C_law_number
  have C_law_wild_edge := c__law_wild_edge (P := P) (w := w) (base := base) T__law_wild_edge C_law_number C_law_wild_forms
  have C_law_wild_lane := c__law_wild_lane (P := P) (w := w) (base := base) B T__law_wild_lane C_law_draw C_law_number C_law_wild_forms C_law_wild_edge
  have C_law_form_written := c__law_form_written (P := P) (w := w) (base := base) B T__law_form_written
  have C_law_lane_written := c__law_lane_written (P := P) (w := w) (base := base) B T__law_lane_written C_law_form_written
  have C_law_alike := al_step (P := P) (w := w) (base := base) B T__law_alike (al_step B T__law_alike (al_step B T__law_alike (al_step B T__law_alike (al_step B T__law_alike (al_step B T__law_alike (al_step B T__law_alike (al_step B T__law_alike (al_step B T__law_alike (al_0 T__law_alike)))))))))
  refine T_law.law (k := 15) sc_law fun cdv A outer s H a ns Q E hr hS hlen k => ?_
  have nd := sc_law.nd
  have hu := hr.units
  refine' go_body [some (.ref a), none, none, none, none, none, none, none, none, none] rfl ?hb ?hg
  case hb =>
   refine' pss_cons ?zb ?zc
   case zb => exact (ps_setC (i := 1) nd rfl (Or.inl rfl) (pe_fn C_law_bag (hr.mono (by first | decide | omega)) (by rfl) (pa_consN (pv 0) pa_nil)))
   case zc =>
    refine' pss_cons ?zd ?ze
    case zd => exact (ps_setL (i := 2) nd rfl (Or.inl rfl) (pe_lst pa_nil))
    case ze =>
     refine' pss_cons ?zf ?zg
     case zf =>
      refine' ps_for ?zh ?zi ?zj ?zk ?zl
      case zh => exact PassesOwn.never
      case zi => exact rfl
      case zj =>
       refine' pi_range1 ?zm ?zn ?zo
       case zm => exact rfl
       case zn => exact B.b_range
       case zo => exact (pa_consC (pe_fn C_law_draw (hr.mono (by first | decide | omega)) (by rfl) (pa_consN (pv 1) (pa_consK pe_int pa_nil))) pa_nil)
      case zk => exact (pg_name (i := 3) nd rfl (Or.inl rfl))
      case zl =>
       refine' pss_one ?zp
       case zp =>
        refine' ps_expr ?zq
        case zq =>
         refine' k_bm (K := K) ?zr ?zs ?zt ?zu ?zv ?zw ?zx
         case zr => exact rfl
         case zs => exact PySem.F.plainAttrs_list
         case zt => exact PySem.F.slot_list_append
         case zu => exact PySem.F.type_list_append
         case zv => exact mt_append
         case zw => exact (pv 2)
         case zx =>
          refine' pa_consL ?zy ?zz
          case zy =>
           refine' pe_lst ?zba
           case zba =>
            refine' pa_consC ?zbb ?zbc
            case zbb => exact (pe_fn C_law_draw (hr.mono (by first | decide | omega)) (by rfl) (pa_consN (pv 1) (pa_consK pe_int pa_nil)))
            case zbc =>
             refine' pa_consC ?zbd ?zbe
             case zbd => exact (pe_fn C_law_draw (hr.mono (by first | decide | omega)) (by rfl) (pa_consN (pv 1) (pa_consB (pe_op op_pow pe_int pe_int) pa_nil)))
             case zbe => exact (pa_consC (pe_fn C_law_draw (hr.mono (by first | decide | omega)) (by rfl) (pa_consN (pv 1) (pa_consK pe_int pa_nil))) pa_nil)
          case zz => exact pa_nil
     case zg =>
      refine' pss_cons ?zbf ?zbg
      case zbf =>
       refine' ps_setC (i := 4) ?zbh ?zbi ?zbj ?zbk
       case zbh => exact nd
       case zbi => exact rfl
       case zbj => exact (Or.inl rfl)
       case zbk =>
        refine' pe_fn ?zbl ?zbm ?zbn ?zbo
        case zbl => exact C_law_lane_written
        case zbm => exact (hr.mono (by first | decide | omega))
        case zbn => exact (by rfl)
        case zbo => exact (pa_consC (pe_fn C_law_wild_lane (hr.mono (by first | decide | omega)) (by rfl) (pa_consN (pv 1) pa_nil)) pa_nil)
      case zbg =>
       refine' pss_cons ?zbp ?zbq
       case zbp =>
        refine' ps_for ?zbr ?zbs ?zbt ?zbu ?zbv
        case zbr => exact PassesOwn.never
        case zbs => exact rfl
        case zbt => exact (k_pi_list (K := K) rfl (pv 2))
        case zbu => exact (pg_name (i := 5) nd rfl (Or.inl rfl))
        case zbv =>
         refine' pss_one ?zbw
         case zbw =>
          refine' ps_if ?zbx ?zby ?zbz
          case zbx => exact (pt_cmpR op_lt (pe_ix (k_ix (K := K) rfl) (pv 5) pe_int (fun _ _ => rfl)) pe_int (nomark _))
          case zby =>
           refine' pss_one ?zca
           case zca =>
            refine' ps_setC (i := 4) ?zcb ?zcc ?zcd ?zce
            case zcb => exact nd
            case zcc => exact rfl
            case zcd => exact (Or.inl rfl)
            case zce => exact (pe_fn C_law_bent_text (hr.mono (by first | decide | omega)) (by rfl) (pa_consN (pv 4) (pa_consN (pv 5) (pa_consN (pv 1) pa_nil))))
          case zbz =>
           refine' pss_one ?zcf
           case zcf =>
            refine' ps_setC (i := 4) ?zcg ?zch ?zci ?zcj
            case zcg => exact nd
            case zch => exact rfl
            case zci => exact (Or.inl rfl)
            case zcj => exact (pe_fn C_law_line_again (hr.mono (by first | decide | omega)) (by rfl) (pa_consN (pv 4) (pa_consN (pv 5) pa_nil)))
       case zbq =>
        refine' pss_cons ?zck ?zcl
        case zck =>
         refine' ps_asg ?zcm ?zcn
         case zcm => exact (pe_fn C_law_read (hr.mono (by first | decide | omega)) (by rfl) (pa_consN (pv 4) pa_nil))
         case zcn => exact (k_pg_tup (K := K) (n := 2) rfl rfl (pgs_cons (pg_name (i := 6) nd rfl (Or.inl rfl)) (pgs_cons (pg_name (i := 7) nd rfl (Or.inl rfl)) pgs_nil)))
        case zcl =>
         refine' pss_cons ?zco ?zcp
         case zco =>
          refine' ps_if ?zcq ?zcr ?zcs
          case zcq => exact (pt_cmpR (k_neE (K := K) rfl hu) (pv 7) (pe_lst pa_nil) (nomark _))
          case zcr =>
           refine' pss_one ?zct
           case zct =>
            refine' ps_ret ?zcu
            case zcu =>
             refine' pe_and ?zcv ?zcw
             case zcv => exact (pe_cmpR op_isN' (pv 6) pe_non (nomark _))
             case zcw =>
              refine' pe_and ?zcx ?zcy
              case zcx => exact (pe_cmpR (op_eqA hu) (pv 7) (pe_lst (pa_consK pe_bl (pa_consK pe_bl (pa_consK pe_bl pa_nil)))) (nomark _))
              case zcy => exact (pe_one (pe_cmpR op_gt (pe_callB (k_len (K := K) rfl) (by rfl) B.b_len bt_len (pa_consN (pv 2) pa_nil)) pe_int (nomark _)))
          case zcs => exact pss_nil
         case zcp =>
          refine' pss_cons ?zcz ?zda
          case zcz =>
           refine' ps_setc (i := 8) (LN := ["many", "paper", "deed"]) (FN := []) (fr := []) ?zdb ?zdc ?zdd ?zde ?zdf ?zdg ?zdh ?zdi ?zdj
           case zdb => exact rfl
           case zdc => exact nd
           case zdd => exact rfl
           case zde => exact rfl
           case zdf => exact (bk_of (by rfl))
           case zdg => exact (k_pi_list (K := K) rfl (pv 6))
           case zdh =>
            intro cl C fp pins s H
            refine' k_pg_tup (K := K) (n := 3) ?zdk ?zdl ?zdm
            case zdk => exact rfl
            case zdl => exact rfl
            case zdm =>
             refine' pgs_cons ?zdn ?zdo
             case zdn => exact (pg_name (i := 0) (show ((["many", "paper", "deed"] : List Str) ++ ([] : List Str)).Nodup by decide +kernel) rfl (Or.inl rfl))
             case zdo =>
              refine' pgs_cons ?zdp ?zdq
              case zdp => exact (pg_name (i := 1) (show ((["many", "paper", "deed"] : List Str) ++ ([] : List Str)).Nodup by decide +kernel) rfl (Or.inl rfl))
              case zdq => exact (pgs_cons (pg_name (i := 2) (show ((["many", "paper", "deed"] : List Str) ++ ([] : List Str)).Nodup by decide +kernel) rfl (Or.inl rfl)) pgs_nil)
           case zdi =>
            intro cl C fp pins s H
            exact pts_nil
           case zdj =>
            intro cl C fp pins s H
            exact (pe_tup (pa_consN (pv 0) (pa_consC (pe_callTy (k_lstOf (K := K) rfl) (by rfl) B.b_list bt_list (pa_consN (pv 1) pa_nil)) (pa_consN (pv 2) pa_nil))))
          case zda =>
           refine' pss_cons ?zdr ?zds
           case zdr => exact (ps_setC (i := 9) nd rfl (Or.inl rfl) (pe_fn Cshown_lane (hr.mono (by first | decide | omega)) (by rfl) (pa_consN (pv 6) pa_nil)))
           case zds =>
            refine' pss_cons ?zdt ?zdu
            case zdt =>
             refine' ps_if ?zdv ?zdw ?zdx
             case zdv =>
              refine' PW.pt ?zdy
              case zdy =>
               refine' pw_or ?zdz ?zea
               case zdz =>
                refine' pt_not ?zeb
                case zeb =>
                 refine' pt_val ?zec
                 case zec => exact (pe_callB call_isi (by rfl) B.b_isinstance bt_isinstance (pa_consN (pv 9) (pa_consN (pe_bltn (v := .ty "str") (by rfl) B.b_str bt_str rfl) pa_nil)))
               case zea =>
                refine' pw_or ?zed ?zee
                case zed => exact (pt_cmpR op_ne (pv 9) (pv 4) (nomark _))
                case zee => exact (pw_or1 (pt_not (pt_val (pe_fn C_law_alike (hr.mono (by first | decide | omega)) (by rfl) (pa_consN (pv 6) (pa_consN (pv 8) pa_nil))))))
             case zdw => exact (pss_one (ps_ret pe_bl))
             case zdx => exact pss_nil
            case zdu =>
             refine' pss_one ?zef
             case zef =>
              refine' ps_ret ?zeg
              case zeg =>
               refine' pe_fn ?zeh ?zei ?zej ?zek
               case zeh => exact C_law_alike
               case zei => exact (hr.mono (by first | decide | omega))
               case zej => exact (by rfl)
               case zek => exact (pa_consC (pe_fnF Cread_lane (hr.mono (by first | decide | omega)) (by rfl) (pa_consN (pv 9) pa_nil)) (pa_consN (pv 8) pa_nil))
  walk_at "rd"
  refine use1 ⟨a, ns, rfl, hS, hlen, fun b l H1 _ _ B1 => ?_⟩
  walk_at "rd"
  walk_at "mk"; intro pp hpp
  have npp := B1.ne hpp
  have s2 := Same.new (o := .lst []) hpp
  have e2 : upd H1 pp (.lst []) pp = some (.lst []) := upd_same
  have B2 := B1.mono s2
  generalize upd H1 pp (.lst []) = H2 at s2 e2 B2
  walk_at "rd"
  refine use2 ⟨b, l, 4, rfl, rfl, ⟨by decide, by decide⟩, B2, fun r H3 r0 r1 B3 b3 => ?_⟩
  have e3 := b3 _ _ (Ne.symm npp.1) e2
  walk_at "rd"
  refine irK_of (by omega) (by omega) ?_
  refine for_range (n := r.toNat) (fun i σ Hx => ∃ x3 ys, σ = [some (.ref a), some (.ref b), some (.ref pp), x3, none, none, none, none, none, none] ∧ Hx pp = some (.lst ys) ∧ ys.length = i ∧ (∀ y ∈ ys, PkV Hx b pp y) ∧ BagAt Hx b l) ⟨none, [], rfl, e3, rfl, fun y hy => (by cases hy), B3⟩ ?_ ?_
  · rintro i σ Hx hi ⟨x3, ys, rfl, ex, hyl, hpk, Bx⟩
    walk_at "rd"
    refine ⟨.inl ⟨rfl, ys, SqL.of ex⟩, ?_⟩
    walk_at "rd"
    refine use2 ⟨b, l, 7, rfl, rfl, ⟨by decide, by decide⟩, Bx, fun p0 H4 _ _ B4 b4 => ?_⟩
    walk_at "rd"
    refine rd_I (⟨by decide, by decide, by decide⟩ : CPow 10 6) ?_
    walk_at "rd"
    refine use2 ⟨b, l, _, rfl, rfl, ⟨by decide +kernel, by decide +kernel⟩, B4, fun p1 H5 _ _ B5 b5 => ?_⟩
    walk_at "rd"
    refine use2 ⟨b, l, 131, rfl, rfl, ⟨by decide, by decide⟩, B5, fun p2 H6 _ _ B6 b6 => ?_⟩
    have b46 := (b4.trans b5).trans b6
    have e6 := b46 _ _ (Ne.symm npp.1) ex
    walk_at "rd"
    refine ⟨show 3 ≤ PySem.sizeLine by rw [PySem.sizeLine_eq]; decide, fun pk hpk6 => ?_⟩
    have npk : pk ≠ b := fun z => (B6.ne hpk6).1 z.symm
    have npq : pk ≠ pp := fun z => by rw [z, e6] at hpk6; cases hpk6
    have s7 := Same.new (o := .lst [V.int p0, V.int p1, V.int p2]) hpk6
    have e7 : upd H6 pk (.lst [V.int p0, V.int p1, V.int p2]) pk = some (.lst [V.int p0, V.int p1, V.int p2]) := upd_same
    have B7 := B6.mono s7
    generalize upd H6 pk (.lst [V.int p0, V.int p1, V.int p2]) = H7 at s7 e7 B7
    walk_at "rd"
    refine rd_append (s7 _ _ e6) (Nat.lt_of_le_of_lt (show ys.length ≤ 1000000 by omega) (by rw [PySem.sizeLine_eq]; decide)) ?_
    refine ⟨_, _, rfl, upd_same, by simp [hyl], fun y hy => ?_, B7.wr npp.1 npp.2⟩
    rcases List.mem_append.mp hy with hy | hy
    · obtain ⟨pk', q0, q1, q2, e, n1, n2, e'⟩ := hpk y hy
      exact ⟨pk', q0, q1, q2, e, n1, n2, by rw [upd_ne n2]; exact s7 _ _ (b46 _ _ n1 e')⟩
    · exact ⟨pk, p0, p1, p2, List.mem_singleton.mp hy, npk, npq, by rw [upd_ne npq]; exact e7⟩
  rintro σ Hx ⟨x3, ys, rfl, ex, hyl, hpk, Bx⟩
  have hy3 : ys.length ≤ 3 := by omega
  walk_at "rd"
  refine use1 ⟨b, l, rfl, Bx, fun sts q vs H4 sne s5 SBs hq nqb hq4 SA4 B4 b4 => ?_⟩
  have e4 := b4 _ _ (Ne.symm npp.1) ex
  have hpk4 : ∀ y ∈ ys, PkV H4 b pp y := fun y hy => (hpk y hy).bs b4
  have WO : ∀ st ∈ sts, WOk st := fun st hst => (SBs st hst).ok
  walk_at "rd"
  refine use1 ⟨q, sts, vs, rfl, hq4, SA4, SBs, s5, fun H5 s5 => ?_⟩
  have e5 := s5 _ _ e4
  have B5 := B4.mono s5
  have hpk5 : ∀ y ∈ ys, PkV H5 b pp y := fun y hy => (hpk4 y hy).bs (BSame.of s5)
  have tx := laneT_len SBs (by assumption) sne
  have ta := lane_asc WO
  have tr := lane_forth sne WO
  generalize laneT sts = t0 at tx ta tr
  clear SA4 hq4 hpk4 e4 B4 b4 hpk Bx ex
  walk_at "rd"
  refine ilK_of (SqL.of e5) ?_
  refine for_list (xs := ys) (fun i σ Hz => ∃ (t : Str) (c5 : Option V), σ = [some (.ref a), some (.ref b), some (.ref pp), x3, some (.str t), c5, none, none, none, none] ∧ isAsc t ∧ t.length ≤ LM i ∧ (i = 0 → t = t0) ∧ BagAt Hz b l ∧ BSame b H5 Hz) ⟨t0, none, rfl, ta, Nat.le_trans tx (by decide), fun _ => rfl, B5, BSame.refl _ _⟩ (fun i σ Hz _ ⟨_, _, _, _, _, _, _, bz⟩ => SqL.of (bz _ _ (Ne.symm npp.1) e5)) ?_ ?_
  · rintro i x σ Hz hx ⟨t, c5, rfl, ta, tl, _, Bz, bz⟩
    obtain ⟨pk, p0, p1, p2, rfl, npk, _, epk⟩ := hpk5 x (List.mem_of_getElem? hx)
    have epz := bz _ _ npk epk
    have hi2 : i < 3 := by
      have h1 := (List.getElem?_eq_some_iff.mp hx).1
      omega
    have hp2 : LM (i + 1) = 2 * LM i + 1 := rfl
    have hp3 : LM i ≤ 400403 := LM_2 ▸ LM_up (show i ≤ 2 by omega)
    have hp1 := LM_ge i
    rw [hp2]
    clear hp2
    generalize LM i = M at tl hp1 hp3
    walk_at "rd"
    refine rd_ixaL epz (v := .int p0) (atI_at (n := 0) rfl rfl) ?_
    walk_at "rd"
    refine ite_dd (fun _ => ?_) (fun _ => ?_)
    · walk_at "rd"
      refine use3 ⟨t, M, pk, p0, p1, p2, b, l, rfl, ta, tl, by omega, rfl, epz, npk, rfl, Bz, fun t' HD ta' tl' BD bD => ?_⟩
      walk_at "rd"
      exact ⟨t', _, rfl, ta', by omega, fun z => absurd z (Nat.succ_ne_zero i), BD, bz.trans bD⟩
    · walk_at "rd"
      refine use2 ⟨t, t.length, pk, p0, p1, p2, rfl, ta, Nat.le_refl _, by omega, rfl, epz, fun t' HD ta' tl' sD => ?_⟩
      walk_at "rd"
      exact ⟨t', _, rfl, ta', by omega, fun z => absurd z (Nat.succ_ne_zero i), Bz.mono sD, bz.to sD⟩
  rintro σ Hz ⟨t, c5, rfl, ta, tl, t00, Bz, bz⟩
  have tl : t.length ≤ 900000 := Nat.le_trans tl (Nat.le_trans (LM_up hy3) (by decide))
  have ez := bz _ _ (Ne.symm npp.1) e5
  walk_at "rd"
  refine use1 ⟨t, rfl, tl, ta, fun sts' p q' e zs HB hw eqB SAB ep ee sB => ?_, fun p q' HB hw ep eq sB => ?_⟩
  · obtain ⟨te, hW⟩ := lane_W hw
    obtain ⟨hl1, hl2⟩ := lane_al (by rw [te]; exact tl) hW
    have hzl := SAB.1
    refine rd_gtup ep rfl ?_
    walk_at "rd"
    walk_at "mk"; intro pe hpe
    have s6 := Same.new (o := .lst []) hpe
    have e6 : upd HB pe (.lst []) pe = some (.lst []) := upd_same
    generalize upd HB pe (.lst []) = H6 at s6 e6
    refine rd_neE (s6 _ _ ee) e6 ?_
    walk_at "rd"
    refine ite_nd (fun g => absurd rfl g) (fun _ => ?_)
    walk_at "rd"
    have hq6 := s6 _ _ eqB
    have SA6 := SAB.mono s6
    refine ilK_of (SqL.of hq6) ?_
    refine cw_list (xs := zs) (big_le (by omega)) (fun i us σ Hy => (∃ x1 x2 x3, σ = [x1, x2, x3]) ∧ Same H6 Hy ∧ SAll Hy (sts'.take i) us) ⟨⟨none, none, none, rfl⟩, Same.refl _, rfl, fun i st v h1 => by cases h1⟩ (fun i us σ Hy _ ⟨_, s1, _⟩ => SqL.of (s1 _ _ hq6)) ?_ ?_
    · rintro i x us σ Hy hx hle hlt ⟨⟨x1, x2, x3, rfl⟩, s1, Dz⟩
      have hi' : i < sts'.length := by have := (List.getElem?_eq_some_iff.mp hx).1; omega
      have est := List.getElem?_eq_getElem hi'
      generalize sts'[i] = st at est
      obtain ⟨t2, l2, y2, vd, rfl, ht2, hl2', ry, rd⟩ := SA6.2 i _ x est hx
      refine rd_gtup (s1 _ _ ht2) rfl ?_
      walk_at "rd"
      refine rd_lstOf (.inl (SqL.of (s1 _ _ hl2'))) fun p2 hp2 => ?_
      have s2 := Same.new (o := .lst y2) hp2
      have e2 : upd Hy p2 (.lst y2) p2 = some (.lst y2) := upd_same
      generalize upd Hy p2 (.lst y2) = H2 at s2 e2
      walk_at "rd"
      refine ⟨show 3 ≤ PySem.sizeLine by rw [PySem.sizeLine_eq]; decide, fun p3 hp3 => ⟨hlt, by simpa using hle, ⟨_, _, _, rfl⟩, ?_⟩⟩
      have s3 := Same.new (o := .tup [V.int st.1, V.ref p2, vd]) hp3
      have e3 : upd H2 p3 (.tup [V.int st.1, V.ref p2, vd]) p3 = some (.tup [V.int st.1, V.ref p2, vd]) := upd_same
      generalize upd H2 p3 (.tup [V.int st.1, V.ref p2, vd]) = H3 at s3 e3
      have s13 := (s1.trans s2).trans s3
      refine ⟨s13, ?_⟩
      rw [List.take_add_one, est]
      exact (Dz.mono (s2.trans s3)).snoc ⟨p3, p2, y2, vd, rfl, e3, s3 _ _ e2, ry.mono s13.ts, rd.mono s13.ts⟩
    rintro us σ Hy hul ⟨⟨x1, x2, x3, rfl⟩, s1, Dz⟩ ph hph
    rw [← hzl, List.take_length] at Dz
    have s8 := Same.new (o := .lst us) hph
    have e8 : upd Hy ph (.lst us) ph = some (.lst us) := upd_same
    generalize upd Hy ph (.lst us) = H8 at s8 e8
    have s68 := s1.trans s8
    have Dz8 := Dz.mono s8
    walk_at "rd"
    refine use1 ⟨q', zs, sts', rfl, s68 _ _ hq6, SA6.mono s68, fun st hst => WOk.st (hW st hst), by rw [te]; exact tl, fun H9 s9 => ?_⟩
    rw [te]
    have s69 := s68.trans s9
    walk_at "rd"
    refine rd_isi (t := "str") rfl (by decide) ?_
    walk_at "rd"
    refine ite_no (by decide) ?_
    walk_at "rd"
    refine ite_no (by simp) ?_
    walk_at "rd"
    refine use2 ⟨al_lane (s69 _ _ hq6) (s9 _ _ e8) (SA6.mono s69) (Dz8.mono s9) hl1 hl2, fun HA sA => ?_⟩
    refine ⟨_, rfl, ?_⟩
    refine ite_no (by decide) ?_
    walk_at "rd"
    refine useX1 ⟨t, rfl, tl, ta, fun sts2 hw2 q2 zs2 HC hqC SAC sC => ?_, fun hn => by rw [hw] at hn; cases hn⟩
    rw [hw] at hw2
    obtain rfl := Option.some.inj hw2
    have s9C := (s9.trans sA).trans sC
    walk_at "rd"
    refine use2 ⟨al_lane hqC (s9C _ _ e8) SAC (Dz8.mono s9C) hl1 hl2, fun HD sD => ?_⟩
    exact k _
  · refine rd_gtup ep rfl ?_
    walk_at "rd"
    walk_at "mk"; intro pe hpe
    have s6 := Same.new (o := .lst []) hpe
    have e6 : upd HB pe (.lst []) pe = some (.lst []) := upd_same
    generalize upd HB pe (.lst []) = H6 at s6 e6
    refine rd_neE (s6 _ _ eq) e6 ?_
    walk_at "rd"
    refine ite_nd (fun _ => ?_) (fun g => by cases g)
    walk_at "rd"
    refine ite_dy rfl ?_
    walk_at "rd"
    walk_at "mk"; intro pf hpf
    have s7 := Same.new (o := .lst [V.bl true, V.bl true, V.bl false]) hpf
    refine rd_eqA (alike_lst (s7 _ _ (s6 _ _ eq)) upd_same rfl (al_cons (Alike.refl _ trivial) (al_cons (Alike.refl _ trivial) (al_cons (Alike.refl _ trivial) al_nil)))) ?_
    walk_at "rd"
    refine rd_lenL' (SqL.of (s7 _ _ (s6 _ _ (sB _ _ ez)))) ?_
    walk_at "rd"
    have hpos : 0 < ys.length := by
      rcases Nat.eq_zero_or_pos ys.length with z | z
      · have := t00 z
        rw [this, tr] at hw
        cases hw
      · exact z
    rw [decide_eq_true (show (0 : Int) < ys.length by omega)]
    exact k _

end
end My

end
end
set_option Elab.async false
set_option linter.all false
set_option maxRecDepth 100000
set_option maxHeartbeats 4000000

namespace My
open PySem L2
theorem len_1 {α : Type} {us : List α} (h : us.length = 1) : ∃ a0, us = [a0] := by
  rcases us with _ | ⟨a0, _ | ⟨b, r⟩⟩
  · simp at h
  · exact ⟨a0, rfl⟩
  · simp at h
theorem len_2 {α : Type} {us : List α} (h : us.length = 2) : ∃ a0 a1, us = [a0, a1] := by
  rcases us with _ | ⟨a0, _ | ⟨a1, _ | ⟨b, r⟩⟩⟩
  · simp at h
  · simp at h
  · exact ⟨a0, a1, rfl⟩
  · simp at h
theorem len_3 {α : Type} {us : List α} (h : us.length = 3) : ∃ a0 a1 a2, us = [a0, a1, a2] := by
  rcases us with _ | ⟨a0, _ | ⟨a1, _ | ⟨a2, _ | ⟨b, r⟩⟩⟩⟩
  · simp at h
  · simp at h
  · simp at h
  · exact ⟨a0, a1, a2, rfl⟩
  · simp at h
theorem len_4 {α : Type} {us : List α} (h : us.length = 4) : ∃ a0 a1 a2 a3, us = [a0, a1, a2, a3] := by
  rcases us with _ | ⟨a0, _ | ⟨a1, _ | ⟨a2, _ | ⟨a3, _ | ⟨b, r⟩⟩⟩⟩⟩
  · simp at h
  · simp at h
  · simp at h
  · simp at h
  · exact ⟨a0, a1, a2, a3, rfl⟩
  · simp at h
theorem all_mk {l : PySem.W.OpenLaw} {w : World} {K : PySem.W.Frag} {h : Heap} {mg : Str → Option Value} {fa : Addr} (X : K.In h) (G : h.Ns mainGlobals mg) (hfa : mg "law" = some (.ref fa))
    {f0 : Addr} {od0 an0 : Option Addr} {sl0 : Array (Option Value)} {oc0 kV0 dc0 pm0 cd0 ct0 : Value}
    {f1 : Addr} {od1 an1 : Option Addr} {sl1 : Array (Option Value)} {oc1 kV1 dc1 pm1 cd1 ct1 : Value}
    {f2 : Addr} {od2 an2 : Option Addr} {sl2 : Array (Option Value)} {oc2 kV2 dc2 pm2 cd2 ct2 : Value}
    {f3 : Addr} {od3 an3 : Option Addr} {sl3 : Array (Option Value)} {oc3 kV3 dc3 pm3 cd3 ct3 : Value}
    {f4 : Addr} {od4 an4 : Option Addr} {sl4 : Array (Option Value)} {oc4 kV4 dc4 pm4 cd4 ct4 : Value}
    {f5 : Addr} {od5 an5 : Option Addr} {sl5 : Array (Option Value)} {oc5 kV5 dc5 pm5 cd5 ct5 : Value}
    {f6 : Addr} {od6 an6 : Option Addr} {sl6 : Array (Option Value)} {oc6 kV6 dc6 pm6 cd6 ct6 : Value}
    {f7 : Addr} {od7 an7 : Option Addr} {sl7 : Array (Option Value)} {oc7 kV7 dc7 pm7 cd7 ct7 : Value}
    {f8 : Addr} {od8 an8 : Option Addr} {sl8 : Array (Option Value)} {oc8 kV8 dc8 pm8 cd8 ct8 : Value}
    {f9 : Addr} {od9 an9 : Option Addr} {sl9 : Array (Option Value)} {oc9 kV9 dc9 pm9 cd9 ct9 : Value}
    {f10 : Addr} {od10 an10 : Option Addr} {sl10 : Array (Option Value)} {oc10 kV10 dc10 pm10 cd10 ct10 : Value}
    {f11 : Addr} {od11 an11 : Option Addr} {sl11 : Array (Option Value)} {oc11 kV11 dc11 pm11 cd11 ct11 : Value}
    {f12 : Addr} {od12 an12 : Option Addr} {sl12 : Array (Option Value)} {oc12 kV12 dc12 pm12 cd12 ct12 : Value}
    {f13 : Addr} {od13 an13 : Option Addr} {sl13 : Array (Option Value)} {oc13 kV13 dc13 pm13 cd13 ct13 : Value}
    {f14 : Addr} {od14 an14 : Option Addr} {sl14 : Array (Option Value)} {oc14 kV14 dc14 pm14 cd14 ct14 : Value}
    {f15 : Addr} {od15 an15 : Option Addr} {sl15 : Array (Option Value)} {oc15 kV15 dc15 pm15 cd15 ct15 : Value}
    {f16 : Addr} {od16 an16 : Option Addr} {sl16 : Array (Option Value)} {oc16 kV16 dc16 pm16 cd16 ct16 : Value}
    {f17 : Addr} {od17 an17 : Option Addr} {sl17 : Array (Option Value)} {oc17 kV17 dc17 pm17 cd17 ct17 : Value}
    {f18 : Addr} {od18 an18 : Option Addr} {sl18 : Array (Option Value)} {oc18 kV18 dc18 pm18 cd18 ct18 : Value}
    {f19 : Addr} {od19 an19 : Option Addr} {sl19 : Array (Option Value)} {oc19 kV19 dc19 pm19 cd19 ct19 : Value}
    {f20 : Addr} {od20 an20 : Option Addr} {sl20 : Array (Option Value)} {oc20 kV20 dc20 pm20 cd20 ct20 : Value}
    {f21 : Addr} {od21 an21 : Option Addr} {sl21 : Array (Option Value)} {oc21 kV21 dc21 pm21 cd21 ct21 : Value}
    {f22 : Addr} {od22 an22 : Option Addr} {sl22 : Array (Option Value)} {oc22 kV22 dc22 pm22 cd22 ct22 : Value}
    {f23 : Addr} {od23 an23 : Option Addr} {sl23 : Array (Option Value)} {oc23 kV23 dc23 pm23 cd23 ct23 : Value}
    {f24 : Addr} {od24 an24 : Option Addr} {sl24 : Array (Option Value)} {oc24 kV24 dc24 pm24 cd24 ct24 : Value}
    {f25 : Addr} {od25 an25 : Option Addr} {sl25 : Array (Option Value)} {oc25 kV25 dc25 pm25 cd25 ct25 : Value}
    {f26 : Addr} {od26 an26 : Option Addr} {sl26 : Array (Option Value)} {oc26 kV26 dc26 pm26 cd26 ct26 : Value}
    {f27 : Addr} {od27 an27 : Option Addr} {sl27 : Array (Option Value)} {oc27 kV27 dc27 pm27 cd27 ct27 : Value}
    {f28 : Addr} {od28 an28 : Option Addr} {sl28 : Array (Option Value)} {oc28 kV28 dc28 pm28 cd28 ct28 : Value}
    {f29 : Addr} {od29 an29 : Option Addr} {sl29 : Array (Option Value)} {oc29 kV29 dc29 pm29 cd29 ct29 : Value}
    {f30 : Addr} {od30 an30 : Option Addr} {sl30 : Array (Option Value)} {oc30 kV30 dc30 pm30 cd30 ct30 : Value}
    {a_DEED_PARTS : Addr} {ep_DEED_PARTS : Nat}
    {t_DEED_PARTS_0 : Tok} {a_DEED_PARTS_0 : Addr} {n_DEED_PARTS_0 : Nat} {sl_DEED_PARTS_0 : Array (Option Value)} {t_DEED_PARTS_0_0 : Tok}
    {t_DEED_PARTS_1 : Tok} {a_DEED_PARTS_1 : Addr} {n_DEED_PARTS_1 : Nat} {sl_DEED_PARTS_1 : Array (Option Value)} {t_DEED_PARTS_1_0 t_DEED_PARTS_1_1 : Tok}
    {t_DEED_PARTS_2 : Tok} {a_DEED_PARTS_2 : Addr} {n_DEED_PARTS_2 : Nat} {sl_DEED_PARTS_2 : Array (Option Value)} {t_DEED_PARTS_2_0 : Tok}
    {t_DEED_PARTS_3 : Tok} {a_DEED_PARTS_3 : Addr} {n_DEED_PARTS_3 : Nat} {sl_DEED_PARTS_3 : Array (Option Value)} {t_DEED_PARTS_3_0 : Tok}
    {t_DEED_PARTS_4 : Tok} {a_DEED_PARTS_4 : Addr} {n_DEED_PARTS_4 : Nat} {sl_DEED_PARTS_4 : Array (Option Value)} {t_DEED_PARTS_4_0 t_DEED_PARTS_4_1 t_DEED_PARTS_4_2 : Tok}
    {t_DEED_PARTS_5 : Tok} {a_DEED_PARTS_5 : Addr} {n_DEED_PARTS_5 : Nat} {sl_DEED_PARTS_5 : Array (Option Value)}
    {t_FIGURES : Tok}
    {t_MOST_FIGURES : Tok}
    (a0 : PySem.W.nsIn K mainGlobals "shown_row" = some (some (.ref f0))) (l0 : K.lookup f0 = some ⟨oc0, od0, .func (PySem.W.fnOf "shown_row" "shown_row" (defArgs s_shown_row) (defBody s_shown_row) (defScope s_shown_row) .none kV0 dc0 pm0 an0 cd0 ct0), sl0⟩) (c0 : PySem.W.codeIn K cd0 "shown_row" = true) (k0 : PySem.W.keepIn K (.ref f0) = true)
    (a1 : PySem.W.nsIn K mainGlobals "read_whole" = some (some (.ref f1))) (l1 : K.lookup f1 = some ⟨oc1, od1, .func (PySem.W.fnOf "read_whole" "read_whole" (defArgs s_read_whole) (defBody s_read_whole) (defScope s_read_whole) .none kV1 dc1 pm1 an1 cd1 ct1), sl1⟩) (c1 : PySem.W.codeIn K cd1 "read_whole" = true) (k1 : PySem.W.keepIn K (.ref f1) = true)
    (a2 : PySem.W.nsIn K mainGlobals "shown_lane" = some (some (.ref f2))) (l2 : K.lookup f2 = some ⟨oc2, od2, .func (PySem.W.fnOf "shown_lane" "shown_lane" (defArgs s_shown_lane) (defBody s_shown_lane) (defScope s_shown_lane) .none kV2 dc2 pm2 an2 cd2 ct2), sl2⟩) (c2 : PySem.W.codeIn K cd2 "shown_lane" = true) (k2 : PySem.W.keepIn K (.ref f2) = true)
    (a3 : PySem.W.nsIn K mainGlobals "shown_stand" = some (some (.ref f3))) (l3 : K.lookup f3 = some ⟨oc3, od3, .func (PySem.W.fnOf "shown_stand" "shown_stand" (defArgs s_shown_stand) (defBody s_shown_stand) (defScope s_shown_stand) .none kV3 dc3 pm3 an3 cd3 ct3), sl3⟩) (c3 : PySem.W.codeIn K cd3 "shown_stand" = true) (k3 : PySem.W.keepIn K (.ref f3) = true)
    (a4 : PySem.W.nsIn K mainGlobals "shown_forms" = some (some (.ref f4))) (l4 : K.lookup f4 = some ⟨oc4, od4, .func (PySem.W.fnOf "shown_forms" "shown_forms" (defArgs s_shown_forms) (defBody s_shown_forms) (defScope s_shown_forms) .none kV4 dc4 pm4 an4 cd4 ct4), sl4⟩) (c4 : PySem.W.codeIn K cd4 "shown_forms" = true) (k4 : PySem.W.keepIn K (.ref f4) = true)
    (a5 : PySem.W.nsIn K mainGlobals "shown_form" = some (some (.ref f5))) (l5 : K.lookup f5 = some ⟨oc5, od5, .func (PySem.W.fnOf "shown_form" "shown_form" (defArgs s_shown_form) (defBody s_shown_form) (defScope s_shown_form) .none kV5 dc5 pm5 an5 cd5 ct5), sl5⟩) (c5 : PySem.W.codeIn K cd5 "shown_form" = true) (k5 : PySem.W.keepIn K (.ref f5) = true)
    (a6 : PySem.W.nsIn K mainGlobals "read_lane" = some (some (.ref f6))) (l6 : K.lookup f6 = some ⟨oc6, od6, .func (PySem.W.fnOf "read_lane" "read_lane" (defArgs s_read_lane) (defBody s_read_lane) (defScope s_read_lane) .none kV6 dc6 pm6 an6 cd6 ct6), sl6⟩) (c6 : PySem.W.codeIn K cd6 "read_lane" = true) (k6 : PySem.W.keepIn K (.ref f6) = true)
    (a7 : PySem.W.nsIn K mainGlobals "read_stand" = some (some (.ref f7))) (l7 : K.lookup f7 = some ⟨oc7, od7, .func (PySem.W.fnOf "read_stand" "read_stand" (defArgs s_read_stand) (defBody s_read_stand) (defScope s_read_stand) .none kV7 dc7 pm7 an7 cd7 ct7), sl7⟩) (c7 : PySem.W.codeIn K cd7 "read_stand" = true) (k7 : PySem.W.keepIn K (.ref f7) = true)
    (a8 : PySem.W.nsIn K mainGlobals "read_frame" = some (some (.ref f8))) (l8 : K.lookup f8 = some ⟨oc8, od8, .func (PySem.W.fnOf "read_frame" "read_frame" (defArgs s_read_frame) (defBody s_read_frame) (defScope s_read_frame) .none kV8 dc8 pm8 an8 cd8 ct8), sl8⟩) (c8 : PySem.W.codeIn K cd8 "read_frame" = true) (k8 : PySem.W.keepIn K (.ref f8) = true)
    (a9 : PySem.W.nsIn K mainGlobals "read_deed" = some (some (.ref f9))) (l9 : K.lookup f9 = some ⟨oc9, od9, .func (PySem.W.fnOf "read_deed" "read_deed" (defArgs s_read_deed) (defBody s_read_deed) (defScope s_read_deed) .none kV9 dc9 pm9 an9 cd9 ct9), sl9⟩) (c9 : PySem.W.codeIn K cd9 "read_deed" = true) (k9 : PySem.W.keepIn K (.ref f9) = true)
    (a10 : PySem.W.nsIn K mainGlobals "read_edge" = some (some (.ref f10))) (l10 : K.lookup f10 = some ⟨oc10, od10, .func (PySem.W.fnOf "read_edge" "read_edge" (defArgs s_read_edge) (defBody s_read_edge) (defScope s_read_edge) .none kV10 dc10 pm10 an10 cd10 ct10), sl10⟩) (c10 : PySem.W.codeIn K cd10 "read_edge" = true) (k10 : PySem.W.keepIn K (.ref f10) = true)
    (a11 : PySem.W.nsIn K mainGlobals "read_forms" = some (some (.ref f11))) (l11 : K.lookup f11 = some ⟨oc11, od11, .func (PySem.W.fnOf "read_forms" "read_forms" (defArgs s_read_forms) (defBody s_read_forms) (defScope s_read_forms) .none kV11 dc11 pm11 an11 cd11 ct11), sl11⟩) (c11 : PySem.W.codeIn K cd11 "read_forms" = true) (k11 : PySem.W.keepIn K (.ref f11) = true)
    (a12 : PySem.W.nsIn K mainGlobals "read_form" = some (some (.ref f12))) (l12 : K.lookup f12 = some ⟨oc12, od12, .func (PySem.W.fnOf "read_form" "read_form" (defArgs s_read_form) (defBody s_read_form) (defScope s_read_form) .none kV12 dc12 pm12 an12 cd12 ct12), sl12⟩) (c12 : PySem.W.codeIn K cd12 "read_form" = true) (k12 : PySem.W.keepIn K (.ref f12) = true)
    (a13 : PySem.W.nsIn K mainGlobals "read_pair" = some (some (.ref f13))) (l13 : K.lookup f13 = some ⟨oc13, od13, .func (PySem.W.fnOf "read_pair" "read_pair" (defArgs s_read_pair) (defBody s_read_pair) (defScope s_read_pair) .none kV13 dc13 pm13 an13 cd13 ct13), sl13⟩) (c13 : PySem.W.codeIn K cd13 "read_pair" = true) (k13 : PySem.W.keepIn K (.ref f13) = true)
    (a14 : PySem.W.nsIn K mainGlobals "read_numbers" = some (some (.ref f14))) (l14 : K.lookup f14 = some ⟨oc14, od14, .func (PySem.W.fnOf "read_numbers" "read_numbers" (defArgs s_read_numbers) (defBody s_read_numbers) (defScope s_read_numbers) .none kV14 dc14 pm14 an14 cd14 ct14), sl14⟩) (c14 : PySem.W.codeIn K cd14 "read_numbers" = true) (k14 : PySem.W.keepIn K (.ref f14) = true)
    (a15 : PySem.W.nsIn K mainGlobals "read_number" = some (some (.ref f15))) (l15 : K.lookup f15 = some ⟨oc15, od15, .func (PySem.W.fnOf "read_number" "read_number" (defArgs s_read_number) (defBody s_read_number) (defScope s_read_number) .none kV15 dc15 pm15 an15 cd15 ct15), sl15⟩) (c15 : PySem.W.codeIn K cd15 "read_number" = true) (k15 : PySem.W.keepIn K (.ref f15) = true)
    (a16 : PySem.W.nsIn K mainGlobals "_law_bag" = some (some (.ref f16))) (l16 : K.lookup f16 = some ⟨oc16, od16, .func (PySem.W.fnOf "_law_bag" "_law_bag" (defArgs s__law_bag) (defBody s__law_bag) (defScope s__law_bag) .none kV16 dc16 pm16 an16 cd16 ct16), sl16⟩) (c16 : PySem.W.codeIn K cd16 "_law_bag" = true) (k16 : PySem.W.keepIn K (.ref f16) = true)
    (a17 : PySem.W.nsIn K mainGlobals "_law_draw" = some (some (.ref f17))) (l17 : K.lookup f17 = some ⟨oc17, od17, .func (PySem.W.fnOf "_law_draw" "_law_draw" (defArgs s__law_draw) (defBody s__law_draw) (defScope s__law_draw) .none kV17 dc17 pm17 an17 cd17 ct17), sl17⟩) (c17 : PySem.W.codeIn K cd17 "_law_draw" = true) (k17 : PySem.W.keepIn K (.ref f17) = true)
    (a18 : PySem.W.nsIn K mainGlobals "_law_number" = some (some (.ref f18))) (l18 : K.lookup f18 = some ⟨oc18, od18, .func (PySem.W.fnOf "_law_number" "_law_number" (defArgs s__law_number) (defBody s__law_number) (defScope s__law_number) .none kV18 dc18 pm18 an18 cd18 ct18), sl18⟩) (c18 : PySem.W.codeIn K cd18 "_law_number" = true) (k18 : PySem.W.keepIn K (.ref f18) = true)
    (a19 : PySem.W.nsIn K mainGlobals "_law_wild_forms" = some (some (.ref f19))) (l19 : K.lookup f19 = some ⟨oc19, od19, .func (PySem.W.fnOf "_law_wild_forms" "_law_wild_forms" (defArgs s__law_wild_forms) (defBody s__law_wild_forms) (defScope s__law_wild_forms) .none kV19 dc19 pm19 an19 cd19 ct19), sl19⟩) (c19 : PySem.W.codeIn K cd19 "_law_wild_forms" = true) (k19 : PySem.W.keepIn K (.ref f19) = true)
    (a20 : PySem.W.nsIn K mainGlobals "_law_wild_edge" = some (some (.ref f20))) (l20 : K.lookup f20 = some ⟨oc20, od20, .func (PySem.W.fnOf "_law_wild_edge" "_law_wild_edge" (defArgs s__law_wild_edge) (defBody s__law_wild_edge) (defScope s__law_wild_edge) .none kV20 dc20 pm20 an20 cd20 ct20), sl20⟩) (c20 : PySem.W.codeIn K cd20 "_law_wild_edge" = true) (k20 : PySem.W.keepIn K (.ref f20) = true)
    (a21 : PySem.W.nsIn K mainGlobals "_law_wild_lane" = some (some (.ref f21))) (l21 : K.lookup f21 = some ⟨oc21, od21, .func (PySem.W.fnOf "_law_wild_lane" "_law_wild_lane" (defArgs s__law_wild_lane) (defBody s__law_wild_lane) (defScope s__law_wild_lane) .none kV21 dc21 pm21 an21 cd21 ct21), sl21⟩) (c21 : PySem.W.codeIn K cd21 "_law_wild_lane" = true) (k21 : PySem.W.keepIn K (.ref f21) = true)
    (a22 : PySem.W.nsIn K mainGlobals "_law_form_written" = some (some (.ref f22))) (l22 : K.lookup f22 = some ⟨oc22, od22, .func (PySem.W.fnOf "_law_form_written" "_law_form_written" (defArgs s__law_form_written) (defBody s__law_form_written) (defScope s__law_form_written) .none kV22 dc22 pm22 an22 cd22 ct22), sl22⟩) (c22 : PySem.W.codeIn K cd22 "_law_form_written" = true) (k22 : PySem.W.keepIn K (.ref f22) = true)
    (a23 : PySem.W.nsIn K mainGlobals "_law_lane_written" = some (some (.ref f23))) (l23 : K.lookup f23 = some ⟨oc23, od23, .func (PySem.W.fnOf "_law_lane_written" "_law_lane_written" (defArgs s__law_lane_written) (defBody s__law_lane_written) (defScope s__law_lane_written) .none kV23 dc23 pm23 an23 cd23 ct23), sl23⟩) (c23 : PySem.W.codeIn K cd23 "_law_lane_written" = true) (k23 : PySem.W.keepIn K (.ref f23) = true)
    (a24 : PySem.W.nsIn K mainGlobals "_law_any_sign" = some (some (.ref f24))) (l24 : K.lookup f24 = some ⟨oc24, od24, .func (PySem.W.fnOf "_law_any_sign" "_law_any_sign" (defArgs s__law_any_sign) (defBody s__law_any_sign) (defScope s__law_any_sign) .none kV24 dc24 pm24 an24 cd24 ct24), sl24⟩) (c24 : PySem.W.codeIn K cd24 "_law_any_sign" = true) (k24 : PySem.W.keepIn K (.ref f24) = true)
    (a25 : PySem.W.nsIn K mainGlobals "_law_run" = some (some (.ref f25))) (l25 : K.lookup f25 = some ⟨oc25, od25, .func (PySem.W.fnOf "_law_run" "_law_run" (defArgs s__law_run) (defBody s__law_run) (defScope s__law_run) .none kV25 dc25 pm25 an25 cd25 ct25), sl25⟩) (c25 : PySem.W.codeIn K cd25 "_law_run" = true) (k25 : PySem.W.keepIn K (.ref f25) = true)
    (a26 : PySem.W.nsIn K mainGlobals "_law_bent_text" = some (some (.ref f26))) (l26 : K.lookup f26 = some ⟨oc26, od26, .func (PySem.W.fnOf "_law_bent_text" "_law_bent_text" (defArgs s__law_bent_text) (defBody s__law_bent_text) (defScope s__law_bent_text) .none kV26 dc26 pm26 an26 cd26 ct26), sl26⟩) (c26 : PySem.W.codeIn K cd26 "_law_bent_text" = true) (k26 : PySem.W.keepIn K (.ref f26) = true)
    (a27 : PySem.W.nsIn K mainGlobals "_law_read" = some (some (.ref f27))) (l27 : K.lookup f27 = some ⟨oc27, od27, .func (PySem.W.fnOf "_law_read" "_law_read" (defArgs s__law_read) (defBody s__law_read) (defScope s__law_read) .none kV27 dc27 pm27 an27 cd27 ct27), sl27⟩) (c27 : PySem.W.codeIn K cd27 "_law_read" = true) (k27 : PySem.W.keepIn K (.ref f27) = true)
    (a28 : PySem.W.nsIn K mainGlobals "_law_alike" = some (some (.ref f28))) (l28 : K.lookup f28 = some ⟨oc28, od28, .func (PySem.W.fnOf "_law_alike" "_law_alike" (defArgs s__law_alike) (defBody s__law_alike) (defScope s__law_alike) .none kV28 dc28 pm28 an28 cd28 ct28), sl28⟩) (c28 : PySem.W.codeIn K cd28 "_law_alike" = true) (k28 : PySem.W.keepIn K (.ref f28) = true)
    (a29 : PySem.W.nsIn K mainGlobals "_law_line_again" = some (some (.ref f29))) (l29 : K.lookup f29 = some ⟨oc29, od29, .func (PySem.W.fnOf "_law_line_again" "_law_line_again" (defArgs s__law_line_again) (defBody s__law_line_again) (defScope s__law_line_again) .none kV29 dc29 pm29 an29 cd29 ct29), sl29⟩) (c29 : PySem.W.codeIn K cd29 "_law_line_again" = true) (k29 : PySem.W.keepIn K (.ref f29) = true)
    (a30 : PySem.W.nsIn K mainGlobals "law" = some (some (.ref f30))) (l30 : K.lookup f30 = some ⟨oc30, od30, .func (PySem.W.fnOf "law" "law" (defArgs s_law) (defBody s_law) (defScope s_law) .none kV30 dc30 pm30 an30 cd30 ct30), sl30⟩) (c30 : PySem.W.codeIn K cd30 "law" = true) (k30 : PySem.W.keepIn K (.ref f30) = true)
    (g_DEED_PARTS : PySem.W.nsIn K mainGlobals "DEED_PARTS" = some (some (.ref a_DEED_PARTS))) (h_DEED_PARTS : K.lookup a_DEED_PARTS = some { cls := .type "dict", data := .dict #[⟨hashStr w "go", .str "go" t_DEED_PARTS_0, .ref a_DEED_PARTS_0⟩, ⟨hashStr w "test", .str "test" t_DEED_PARTS_1, .ref a_DEED_PARTS_1⟩, ⟨hashStr w "tell", .str "tell" t_DEED_PARTS_2, .ref a_DEED_PARTS_2⟩, ⟨hashStr w "take", .str "take" t_DEED_PARTS_3, .ref a_DEED_PARTS_3⟩, ⟨hashStr w "hold", .str "hold" t_DEED_PARTS_4, .ref a_DEED_PARTS_4⟩, ⟨hashStr w "leave", .str "leave" t_DEED_PARTS_5, .ref a_DEED_PARTS_5⟩] ep_DEED_PARTS }) (s_DEED_PARTS : (a_DEED_PARTS == sysModules) = false)
    (h_DEED_PARTS_0 : K.lookup a_DEED_PARTS_0 = some ⟨.type "tuple", none, .seq #[.str "edge" t_DEED_PARTS_0_0] n_DEED_PARTS_0, sl_DEED_PARTS_0⟩)
    (h_DEED_PARTS_1 : K.lookup a_DEED_PARTS_1 = some ⟨.type "tuple", none, .seq #[.str "edge" t_DEED_PARTS_1_0, .str "edge" t_DEED_PARTS_1_1] n_DEED_PARTS_1, sl_DEED_PARTS_1⟩)
    (h_DEED_PARTS_2 : K.lookup a_DEED_PARTS_2 = some ⟨.type "tuple", none, .seq #[.str "edge" t_DEED_PARTS_2_0] n_DEED_PARTS_2, sl_DEED_PARTS_2⟩)
    (h_DEED_PARTS_3 : K.lookup a_DEED_PARTS_3 = some ⟨.type "tuple", none, .seq #[.str "edge" t_DEED_PARTS_3_0] n_DEED_PARTS_3, sl_DEED_PARTS_3⟩)
    (h_DEED_PARTS_4 : K.lookup a_DEED_PARTS_4 = some ⟨.type "tuple", none, .seq #[.str "number" t_DEED_PARTS_4_0, .str "number" t_DEED_PARTS_4_1, .str "edge" t_DEED_PARTS_4_2] n_DEED_PARTS_4, sl_DEED_PARTS_4⟩)
    (h_DEED_PARTS_5 : K.lookup a_DEED_PARTS_5 = some ⟨.type "tuple", none, .seq #[] n_DEED_PARTS_5, sl_DEED_PARTS_5⟩)
    (g_FIGURES : PySem.W.nsIn K mainGlobals "FIGURES" = some (some (.str "0123456789" t_FIGURES)))
    (g_MOST_FIGURES : PySem.W.nsIn K mainGlobals "MOST_FIGURES" = some (some (.int 300 t_MOST_FIGURES)))
    {C_NoText : Addr} (e_NoText : PySem.W.nsIn K mainGlobals "NoText" = some (some (.ref C_NoText)))
    {C_LaneError : Addr} (e_LaneError : PySem.W.nsIn K mainGlobals "LaneError" = some (some (.ref C_LaneError)))
    {C_NotFormed : Addr} (e_NotFormed : PySem.W.nsIn K mainGlobals "NotFormed" = some (some (.ref C_NotFormed)))
    {C_Faulty : Addr} (e_Faulty : PySem.W.nsIn K mainGlobals "Faulty" = some (some (.ref C_Faulty)))
    (e_exc : PySem.W.excIn K C_NoText bmVE "ValueError.__new__" = true) (e_x : PySem.W.exmOne K (.ref C_NoText) (.ref C_LaneError) = some true)
    (e_ga : PySem.W.findIn K (.ref C_NoText) "__getattribute__" = some (some (.builtin "BaseException.__getattribute__"))) (e_gh : PySem.W.findIn K (.ref C_NoText) "__getattr__" = some none) (e_fc : PySem.W.findIn K (.ref C_NoText) "__class__" = some (some (.builtin "object.__class__")))
    (e_sg : PySem.W.specialIn K (.builtin "object.__class__") "__get__" = some (some (.builtin "getset_descriptor.__get__"))) (e_tk : PySem.W.takesIn K (.builtin "object.__class__") = some true) (e_mo : PySem.W.mroIn K C_NoText (.type "object") = some true) (e_mb : PySem.W.mroIn K C_NoText (.type "BaseException") = some true)
    (e_kc : PySem.W.kitCls K (.ref C_NoText) (.ref C_NoText) = some true) (e_kV : PySem.W.kitCls K (.ref C_NoText) (.type "ValueError") = some true) (e_kN : PySem.W.kitCls K (.ref C_NoText) (.ref C_NotFormed) = some false) (e_kF : PySem.W.kitCls K (.ref C_NoText) (.ref C_Faulty) = some false)
    (e_nN : (Value.ref C_NoText == Value.ref C_NotFormed) = false) (e_nF : (Value.ref C_NoText == Value.ref C_Faulty) = false)
    (z_ValueError : PySem.W.nsIn K mainGlobals "ValueError" = some none)
    (z_abs : PySem.W.nsIn K mainGlobals "abs" = some none)
    (z_all : PySem.W.nsIn K mainGlobals "all" = some none)
    (z_bool : PySem.W.nsIn K mainGlobals "bool" = some none)
    (z_int : PySem.W.nsIn K mainGlobals "int" = some none)
    (z_isinstance : PySem.W.nsIn K mainGlobals "isinstance" = some none)
    (z_len : PySem.W.nsIn K mainGlobals "len" = some none)
    (z_list : PySem.W.nsIn K mainGlobals "list" = some none)
    (z_range : PySem.W.nsIn K mainGlobals "range" = some none)
    (z_str : PySem.W.nsIn K mainGlobals "str" = some none)
    (z_tuple : PySem.W.nsIn K mainGlobals "tuple" = some none)
    : ∃ fd : FuncData, (∀ (s : Shared) (v : Value), BindsTo s fd ⟨[v], []⟩ [("script", v)]) ∧ ∀ base : Heap, K.In base → base.Ns mainGlobals mg → FnOk l.prog w K mg base CX0 16 fa fd ["script"] (spLaw K) := by
  have HX : ExH K mg C_NoText C_LaneError C_NotFormed C_Faulty := ⟨PySem.W.mg_of X G e_NoText, e_exc, PySem.W.mg_of X G e_LaneError, PySem.W.mg_of X G e_NotFormed, PySem.W.mg_of X G e_Faulty, e_x, ⟨e_ga, e_gh, e_fc, e_sg, e_tk, e_mo, e_mb, e_kc⟩, e_kV, e_kN, e_kF, e_nN, e_nF⟩
  have B : Blt mg := ⟨PySem.W.mg_none_of X G z_ValueError, PySem.W.mg_none_of X G z_abs, PySem.W.mg_none_of X G z_all, PySem.W.mg_none_of X G z_bool, PySem.W.mg_none_of X G z_int, PySem.W.mg_none_of X G z_isinstance, PySem.W.mg_none_of X G z_len, PySem.W.mg_none_of X G z_list, PySem.W.mg_none_of X G z_range, PySem.W.mg_none_of X G z_str, PySem.W.mg_none_of X G z_tuple⟩
  have GG : Glb K w mg := ⟨⟨_, PySem.W.mg_of X G g_DEED_PARTS, s_DEED_PARTS, by decide +kernel, [("go", t_DEED_PARTS_0, a_DEED_PARTS_0), ("test", t_DEED_PARTS_1, a_DEED_PARTS_1), ("tell", t_DEED_PARTS_2, a_DEED_PARTS_2), ("take", t_DEED_PARTS_3, a_DEED_PARTS_3), ("hold", t_DEED_PARTS_4, a_DEED_PARTS_4), ("leave", t_DEED_PARTS_5, a_DEED_PARTS_5)], ep_DEED_PARTS, h_DEED_PARTS, .cons ⟨rfl, ⟨_, _, _, h_DEED_PARTS_0, rfl, rfl, mk_le rfl, .cons ⟨_, rfl⟩ (.nil)⟩, _, h_DEED_PARTS_0, rfl, rfl⟩ (.cons ⟨rfl, ⟨_, _, _, h_DEED_PARTS_1, rfl, rfl, mk_le rfl, .cons ⟨_, rfl⟩ (.cons ⟨_, rfl⟩ (.nil))⟩, _, h_DEED_PARTS_1, rfl, rfl⟩ (.cons ⟨rfl, ⟨_, _, _, h_DEED_PARTS_2, rfl, rfl, mk_le rfl, .cons ⟨_, rfl⟩ (.nil)⟩, _, h_DEED_PARTS_2, rfl, rfl⟩ (.cons ⟨rfl, ⟨_, _, _, h_DEED_PARTS_3, rfl, rfl, mk_le rfl, .cons ⟨_, rfl⟩ (.nil)⟩, _, h_DEED_PARTS_3, rfl, rfl⟩ (.cons ⟨rfl, ⟨_, _, _, h_DEED_PARTS_4, rfl, rfl, mk_le rfl, .cons ⟨_, rfl⟩ (.cons ⟨_, rfl⟩ (.cons ⟨_, rfl⟩ (.nil)))⟩, _, h_DEED_PARTS_4, rfl, rfl⟩ (.cons ⟨rfl, ⟨_, _, _, h_DEED_PARTS_5, rfl, rfl, mk_le rfl, .nil⟩, _, h_DEED_PARTS_5, rfl, rfl⟩ (.nil))))))⟩, ⟨_, PySem.W.mg_of X G g_FIGURES⟩, ⟨_, PySem.W.mg_of X G g_MOST_FIGURES⟩⟩
  have F0 := fun_mk (st := s_shown_row) l0 c0 k0
  have T_shown_row : TopFn K mg "shown_row" s_shown_row ["word", "numbers"] := ⟨_, _, F0, PySem.W.mg_of X G a0, F0.binds (ps := ["word", "numbers"]) fun _ _ _ _ _ _ us hl => by obtain ⟨_, _, rfl⟩ := len_2 hl; rfl⟩
  have F1 := fun_mk (st := s_read_whole) l1 c1 k1
  have T_read_whole : TopFn K mg "read_whole" s_read_whole ["text", "most"] := ⟨_, _, F1, PySem.W.mg_of X G a1, F1.binds (ps := ["text", "most"]) fun _ _ _ _ _ _ us hl => by obtain ⟨_, _, rfl⟩ := len_2 hl; rfl⟩
  have F2 := fun_mk (st := s_shown_lane) l2 c2 k2
  have T_shown_lane : TopFn K mg "shown_lane" s_shown_lane ["lane"] := ⟨_, _, F2, PySem.W.mg_of X G a2, F2.binds (ps := ["lane"]) fun _ _ _ _ _ _ us hl => by obtain ⟨_, rfl⟩ := len_1 hl; rfl⟩
  have F3 := fun_mk (st := s_shown_stand) l3 c3 k3
  have T_shown_stand : TopFn K mg "shown_stand" s_shown_stand ["stand"] := ⟨_, _, F3, PySem.W.mg_of X G a3, F3.binds (ps := ["stand"]) fun _ _ _ _ _ _ us hl => by obtain ⟨_, rfl⟩ := len_1 hl; rfl⟩
  have F4 := fun_mk (st := s_shown_forms) l4 c4 k4
  have T_shown_forms : TopFn K mg "shown_forms" s_shown_forms ["word", "one", "other", "forms"] := ⟨_, _, F4, PySem.W.mg_of X G a4, F4.binds (ps := ["word", "one", "other", "forms"]) fun _ _ _ _ _ _ us hl => by obtain ⟨_, _, _, _, rfl⟩ := len_4 hl; rfl⟩
  have F5 := fun_mk (st := s_shown_form) l5 c5 k5
  have T_shown_form : TopFn K mg "shown_form" s_shown_form ["form"] := ⟨_, _, F5, PySem.W.mg_of X G a5, F5.binds (ps := ["form"]) fun _ _ _ _ _ _ us hl => by obtain ⟨_, rfl⟩ := len_1 hl; rfl⟩
  have F6 := fun_mk (st := s_read_lane) l6 c6 k6
  have T_read_lane : TopFn K mg "read_lane" s_read_lane ["text"] := ⟨_, _, F6, PySem.W.mg_of X G a6, F6.binds (ps := ["text"]) fun _ _ _ _ _ _ us hl => by obtain ⟨_, rfl⟩ := len_1 hl; rfl⟩
  have F7 := fun_mk (st := s_read_stand) l7 c7 k7
  have T_read_stand : TopFn K mg "read_stand" s_read_stand ["group"] := ⟨_, _, F7, PySem.W.mg_of X G a7, F7.binds (ps := ["group"]) fun _ _ _ _ _ _ us hl => by obtain ⟨_, rfl⟩ := len_1 hl; rfl⟩
  have F8 := fun_mk (st := s_read_frame) l8 c8 k8
  have T_read_frame : TopFn K mg "read_frame" s_read_frame ["words"] := ⟨_, _, F8, PySem.W.mg_of X G a8, F8.binds (ps := ["words"]) fun _ _ _ _ _ _ us hl => by obtain ⟨_, rfl⟩ := len_1 hl; rfl⟩
  have F9 := fun_mk (st := s_read_deed) l9 c9 k9
  have T_read_deed : TopFn K mg "read_deed" s_read_deed ["words", "lines"] := ⟨_, _, F9, PySem.W.mg_of X G a9, F9.binds (ps := ["words", "lines"]) fun _ _ _ _ _ _ us hl => by obtain ⟨_, _, rfl⟩ := len_2 hl; rfl⟩
  have F10 := fun_mk (st := s_read_edge) l10 c10 k10
  have T_read_edge : TopFn K mg "read_edge" s_read_edge ["words"] := ⟨_, _, F10, PySem.W.mg_of X G a10, F10.binds (ps := ["words"]) fun _ _ _ _ _ _ us hl => by obtain ⟨_, rfl⟩ := len_1 hl; rfl⟩
  have F11 := fun_mk (st := s_read_forms) l11 c11 k11
  have T_read_forms : TopFn K mg "read_forms" s_read_forms ["words"] := ⟨_, _, F11, PySem.W.mg_of X G a11, F11.binds (ps := ["words"]) fun _ _ _ _ _ _ us hl => by obtain ⟨_, rfl⟩ := len_1 hl; rfl⟩
  have F12 := fun_mk (st := s_read_form) l12 c12 k12
  have T_read_form : TopFn K mg "read_form" s_read_form ["word"] := ⟨_, _, F12, PySem.W.mg_of X G a12, F12.binds (ps := ["word"]) fun _ _ _ _ _ _ us hl => by obtain ⟨_, rfl⟩ := len_1 hl; rfl⟩
  have F13 := fun_mk (st := s_read_pair) l13 c13 k13
  have T_read_pair : TopFn K mg "read_pair" s_read_pair ["part"] := ⟨_, _, F13, PySem.W.mg_of X G a13, F13.binds (ps := ["part"]) fun _ _ _ _ _ _ us hl => by obtain ⟨_, rfl⟩ := len_1 hl; rfl⟩
  have F14 := fun_mk (st := s_read_numbers) l14 c14 k14
  have T_read_numbers : TopFn K mg "read_numbers" s_read_numbers ["words", "many"] := ⟨_, _, F14, PySem.W.mg_of X G a14, F14.binds (ps := ["words", "many"]) fun _ _ _ _ _ _ us hl => by obtain ⟨_, _, rfl⟩ := len_2 hl; rfl⟩
  have F15 := fun_mk (st := s_read_number) l15 c15 k15
  have T_read_number : TopFn K mg "read_number" s_read_number ["text"] := ⟨_, _, F15, PySem.W.mg_of X G a15, F15.binds (ps := ["text"]) fun _ _ _ _ _ _ us hl => by obtain ⟨_, rfl⟩ := len_1 hl; rfl⟩
  have F16 := fun_mk (st := s__law_bag) l16 c16 k16
  have T__law_bag : TopFn K mg "_law_bag" s__law_bag ["script"] := ⟨_, _, F16, PySem.W.mg_of X G a16, F16.binds (ps := ["script"]) fun _ _ _ _ _ _ us hl => by obtain ⟨_, rfl⟩ := len_1 hl; rfl⟩
  have F17 := fun_mk (st := s__law_draw) l17 c17 k17
  have T__law_draw : TopFn K mg "_law_draw" s__law_draw ["bag", "many"] := ⟨_, _, F17, PySem.W.mg_of X G a17, F17.binds (ps := ["bag", "many"]) fun _ _ _ _ _ _ us hl => by obtain ⟨_, _, rfl⟩ := len_2 hl; rfl⟩
  have F18 := fun_mk (st := s__law_number) l18 c18 k18
  have T__law_number : TopFn K mg "_law_number" s__law_number ["bag"] := ⟨_, _, F18, PySem.W.mg_of X G a18, F18.binds (ps := ["bag"]) fun _ _ _ _ _ _ us hl => by obtain ⟨_, rfl⟩ := len_1 hl; rfl⟩
  have F19 := fun_mk (st := s__law_wild_forms) l19 c19 k19
  have T__law_wild_forms : TopFn K mg "_law_wild_forms" s__law_wild_forms ["bag"] := ⟨_, _, F19, PySem.W.mg_of X G a19, F19.binds (ps := ["bag"]) fun _ _ _ _ _ _ us hl => by obtain ⟨_, rfl⟩ := len_1 hl; rfl⟩
  have F20 := fun_mk (st := s__law_wild_edge) l20 c20 k20
  have T__law_wild_edge : TopFn K mg "_law_wild_edge" s__law_wild_edge ["bag"] := ⟨_, _, F20, PySem.W.mg_of X G a20, F20.binds (ps := ["bag"]) fun _ _ _ _ _ _ us hl => by obtain ⟨_, rfl⟩ := len_1 hl; rfl⟩
  have F21 := fun_mk (st := s__law_wild_lane) l21 c21 k21
  have T__law_wild_lane : TopFn K mg "_law_wild_lane" s__law_wild_lane ["bag"] := ⟨_, _, F21, PySem.W.mg_of X G a21, F21.binds (ps := ["bag"]) fun _ _ _ _ _ _ us hl => by obtain ⟨_, rfl⟩ := len_1 hl; rfl⟩
  have F22 := fun_mk (st := s__law_form_written) l22 c22 k22
  have T__law_form_written : TopFn K mg "_law_form_written" s__law_form_written ["form"] := ⟨_, _, F22, PySem.W.mg_of X G a22, F22.binds (ps := ["form"]) fun _ _ _ _ _ _ us hl => by obtain ⟨_, rfl⟩ := len_1 hl; rfl⟩
  have F23 := fun_mk (st := s__law_lane_written) l23 c23 k23
  have T__law_lane_written : TopFn K mg "_law_lane_written" s__law_lane_written ["lane"] := ⟨_, _, F23, PySem.W.mg_of X G a23, F23.binds (ps := ["lane"]) fun _ _ _ _ _ _ us hl => by obtain ⟨_, rfl⟩ := len_1 hl; rfl⟩
  have F24 := fun_mk (st := s__law_any_sign) l24 c24 k24
  have T__law_any_sign : TopFn K mg "_law_any_sign" s__law_any_sign ["bag"] := ⟨_, _, F24, PySem.W.mg_of X G a24, F24.binds (ps := ["bag"]) fun _ _ _ _ _ _ us hl => by obtain ⟨_, rfl⟩ := len_1 hl; rfl⟩
  have F25 := fun_mk (st := s__law_run) l25 c25 k25
  have T__law_run : TopFn K mg "_law_run" s__law_run ["bag"] := ⟨_, _, F25, PySem.W.mg_of X G a25, F25.binds (ps := ["bag"]) fun _ _ _ _ _ _ us hl => by obtain ⟨_, rfl⟩ := len_1 hl; rfl⟩
  have F26 := fun_mk (st := s__law_bent_text) l26 c26 k26
  have T__law_bent_text : TopFn K mg "_law_bent_text" s__law_bent_text ["text", "pick", "bag"] := ⟨_, _, F26, PySem.W.mg_of X G a26, F26.binds (ps := ["text", "pick", "bag"]) fun _ _ _ _ _ _ us hl => by obtain ⟨_, _, _, rfl⟩ := len_3 hl; rfl⟩
  have F27 := fun_mk (st := s__law_read) l27 c27 k27
  have T__law_read : TopFn K mg "_law_read" s__law_read ["text"] := ⟨_, _, F27, PySem.W.mg_of X G a27, F27.binds (ps := ["text"]) fun _ _ _ _ _ _ us hl => by obtain ⟨_, rfl⟩ := len_1 hl; rfl⟩
  have F28 := fun_mk (st := s__law_alike) l28 c28 k28
  have T__law_alike : TopFn K mg "_law_alike" s__law_alike ["found", "due"] := ⟨_, _, F28, PySem.W.mg_of X G a28, F28.binds (ps := ["found", "due"]) fun _ _ _ _ _ _ us hl => by obtain ⟨_, _, rfl⟩ := len_2 hl; rfl⟩
  have F29 := fun_mk (st := s__law_line_again) l29 c29 k29
  have T__law_line_again : TopFn K mg "_law_line_again" s__law_line_again ["text", "pick"] := ⟨_, _, F29, PySem.W.mg_of X G a29, F29.binds (ps := ["text", "pick"]) fun _ _ _ _ _ _ us hl => by obtain ⟨_, _, rfl⟩ := len_2 hl; rfl⟩
  have F30 := fun_mk (st := s_law) l30 c30 k30
  have e := hfa.symm.trans (PySem.W.mg_of X G a30)
  cases e
  refine ⟨PySem.W.fnOf "law" "law" (defArgs s_law) (defBody s_law) (defScope s_law) .none kV30 dc30 pm30 an30 cd30 ct30, fun s v => .of_eq rfl, fun base _ _ => ?_⟩
  exact law_fn (B := B) (HX := HX) (G := GG) (T_shown_row := T_shown_row) (T_read_whole := T_read_whole) (T_shown_lane := T_shown_lane) (T_shown_stand := T_shown_stand) (T_shown_forms := T_shown_forms) (T_shown_form := T_shown_form) (T_read_lane := T_read_lane) (T_read_stand := T_read_stand) (T_read_frame := T_read_frame) (T_read_deed := T_read_deed) (T_read_edge := T_read_edge) (T_read_forms := T_read_forms) (T_read_form := T_read_form) (T_read_pair := T_read_pair) (T_read_numbers := T_read_numbers) (T_read_number := T_read_number) (T__law_bag := T__law_bag) (T__law_draw := T__law_draw) (T__law_number := T__law_number) (T__law_wild_forms := T__law_wild_forms) (T__law_wild_edge := T__law_wild_edge) (T__law_wild_lane := T__law_wild_lane) (T__law_form_written := T__law_form_written) (T__law_lane_written := T__law_lane_written) (T__law_any_sign := T__law_any_sign) (T__law_run := T__law_run) (T__law_bent_text := T__law_bent_text) (T__law_read := T__law_read) (T__law_alike := T__law_alike) (T__law_line_again := T__law_line_again) (T_law := F30)

end My
open PySem PySem.W PyProof.Rows
set_option maxRecDepth 100000 in
set_option maxHeartbeats 0 in
theorem PySem.Challenge.cw_midlanes_k73_whole_one_lane_text_holds : PySem.Challenge.rw_midlanes_k73_whole_one_lane_text.Holds := by
  w_on; o_law; k_head; (case hw => w_witness2)
  k_fill
  refine L2.walk_of (l := PySem.Challenge.rw_midlanes_k73_whole_one_lane_text) (n := 63) (k := 16) (x := "script") (CX := fun _ => L2.CX0) (sp := fun w => L2.spLaw _) rfl (by decide) rfl ⟨rfl, by decide, by decide⟩ (fun w h Y => PySem.W.kIn_of Y) ?F (fun _ _ a ns hl _ hS => L2.spLaw_of hl hS) (fun _ _ _ _ _ z => z)
  case F =>
    intro w mg fa h KX G hmg
    refine' My.all_mk KX G hmg ?a0 ?l0 ?c0 ?k0 ?a1 ?l1 ?c1 ?k1 ?a2 ?l2 ?c2 ?k2 ?a3 ?l3 ?c3 ?k3 ?a4 ?l4 ?c4 ?k4 ?a5 ?l5 ?c5 ?k5 ?a6 ?l6 ?c6 ?k6 ?a7 ?l7 ?c7 ?k7 ?a8 ?l8 ?c8 ?k8 ?a9 ?l9 ?c9 ?k9 ?a10 ?l10 ?c10 ?k10 ?a11 ?l11 ?c11 ?k11 ?a12 ?l12 ?c12 ?k12 ?a13 ?l13 ?c13 ?k13 ?a14 ?l14 ?c14 ?k14 ?a15 ?l15 ?c15 ?k15 ?a16 ?l16 ?c16 ?k16 ?a17 ?l17 ?c17 ?k17 ?a18 ?l18 ?c18 ?k18 ?a19 ?l19 ?c19 ?k19 ?a20 ?l20 ?c20 ?k20 ?a21 ?l21 ?c21 ?k21 ?a22 ?l22 ?c22 ?k22 ?a23 ?l23 ?c23 ?k23 ?a24 ?l24 ?c24 ?k24 ?a25 ?l25 ?c25 ?k25 ?a26 ?l26 ?c26 ?k26 ?a27 ?l27 ?c27 ?k27 ?a28 ?l28 ?c28 ?k28 ?a29 ?l29 ?c29 ?k29 ?a30 ?l30 ?c30 ?k30 ?g_DEED_PARTS ?h_DEED_PARTS ?s_DEED_PARTS ?h_DEED_PARTS_0 ?h_DEED_PARTS_1 ?h_DEED_PARTS_2 ?h_DEED_PARTS_3 ?h_DEED_PARTS_4 ?h_DEED_PARTS_5 ?g_FIGURES ?g_MOST_FIGURES ?e_NoText ?e_LaneError ?e_NotFormed ?e_Faulty ?e_exc ?e_x ?e_ga ?e_gh ?e_fc ?e_sg ?e_tk ?e_mo ?e_mb ?e_kc ?e_kV ?e_kN ?e_kF ?e_nN ?e_nF ?z_ValueError ?z_abs ?z_all ?z_bool ?z_int ?z_isinstance ?z_len ?z_list ?z_range ?z_str ?z_tuple
    (case a0 => k_is)
    (case l0 => k_is)
    (case c0 => k_is)
    (case k0 => k_is)
    (case a1 => k_is)
    (case l1 => k_is)
    (case c1 => k_is)
    (case k1 => k_is)
    (case a2 => k_is)
    (case l2 => k_is)
    (case c2 => k_is)
    (case k2 => k_is)
    (case a3 => k_is)
    (case l3 => k_is)
    (case c3 => k_is)
    (case k3 => k_is)
    (case a4 => k_is)
    (case l4 => k_is)
    (case c4 => k_is)
    (case k4 => k_is)
    (case a5 => k_is)
    (case l5 => k_is)
    (case c5 => k_is)
    (case k5 => k_is)
    (case a6 => k_is)
    (case l6 => k_is)
    (case c6 => k_is)
    (case k6 => k_is)
    (case a7 => k_is)
    (case l7 => k_is)
    (case c7 => k_is)
    (case k7 => k_is)
    (case a8 => k_is)
    (case l8 => k_is)
    (case c8 => k_is)
    (case k8 => k_is)
    (case a9 => k_is)
    (case l9 => k_is)
    (case c9 => k_is)
    (case k9 => k_is)
    (case a10 => k_is)
    (case l10 => k_is)
    (case c10 => k_is)
    (case k10 => k_is)
    (case a11 => k_is)
    (case l11 => k_is)
    (case c11 => k_is)
    (case k11 => k_is)
    (case a12 => k_is)
    (case l12 => k_is)
    (case c12 => k_is)
    (case k12 => k_is)
    (case a13 => k_is)
    (case l13 => k_is)
    (case c13 => k_is)
    (case k13 => k_is)
    (case a14 => k_is)
    (case l14 => k_is)
    (case c14 => k_is)
    (case k14 => k_is)
    (case a15 => k_is)
    (case l15 => k_is)
    (case c15 => k_is)
    (case k15 => k_is)
    (case a16 => k_is)
    (case l16 => k_is)
    (case c16 => k_is)
    (case k16 => k_is)
    (case a17 => k_is)
    (case l17 => k_is)
    (case c17 => k_is)
    (case k17 => k_is)
    (case a18 => k_is)
    (case l18 => k_is)
    (case c18 => k_is)
    (case k18 => k_is)
    (case a19 => k_is)
    (case l19 => k_is)
    (case c19 => k_is)
    (case k19 => k_is)
    (case a20 => k_is)
    (case l20 => k_is)
    (case c20 => k_is)
    (case k20 => k_is)
    (case a21 => k_is)
    (case l21 => k_is)
    (case c21 => k_is)
    (case k21 => k_is)
    (case a22 => k_is)
    (case l22 => k_is)
    (case c22 => k_is)
    (case k22 => k_is)
    (case a23 => k_is)
    (case l23 => k_is)
    (case c23 => k_is)
    (case k23 => k_is)
    (case a24 => k_is)
    (case l24 => k_is)
    (case c24 => k_is)
    (case k24 => k_is)
    (case a25 => k_is)
    (case l25 => k_is)
    (case c25 => k_is)
    (case k25 => k_is)
    (case a26 => k_is)
    (case l26 => k_is)
    (case c26 => k_is)
    (case k26 => k_is)
    (case a27 => k_is)
    (case l27 => k_is)
    (case c27 => k_is)
    (case k27 => k_is)
    (case a28 => k_is)
    (case l28 => k_is)
    (case c28 => k_is)
    (case k28 => k_is)
    (case a29 => k_is)
    (case l29 => k_is)
    (case c29 => k_is)
    (case k29 => k_is)
    (case a30 => k_is)
    (case l30 => k_is)
    (case c30 => k_is)
    (case k30 => k_is)
    (case g_DEED_PARTS => k_is)
    (case h_DEED_PARTS => k_is)
    (case s_DEED_PARTS => first | rfl | decide)
    (case h_DEED_PARTS_0 => k_is)
    (case h_DEED_PARTS_1 => k_is)
    (case h_DEED_PARTS_2 => k_is)
    (case h_DEED_PARTS_3 => k_is)
    (case h_DEED_PARTS_4 => k_is)
    (case h_DEED_PARTS_5 => k_is)
    (case g_FIGURES => k_is)
    (case g_MOST_FIGURES => k_is)
    (case e_NoText => first | k_is | rfl)
    (case e_LaneError => first | k_is | rfl)
    (case e_NotFormed => first | k_is | rfl)
    (case e_Faulty => first | k_is | rfl)
    (case e_exc => (unfold L2.bmVE; k_exc))
    (case e_x => first | k_is | rfl)
    (case e_ga => first | k_is | rfl)
    (case e_gh => first | k_is | rfl)
    (case e_fc => first | k_is | rfl)
    (case e_sg => first | k_is | rfl)
    (case e_tk => first | k_is | rfl)
    (case e_mo => first | k_is | rfl)
    (case e_mb => first | k_is | rfl)
    (case e_kc => first | k_is | rfl)
    (case e_kV => first | k_is | rfl)
    (case e_kN => first | k_is | rfl)
    (case e_kF => first | k_is | rfl)
    (case e_nN => first | k_is | rfl)
    (case e_nF => first | k_is | rfl)
    (case z_ValueError => k_is)
    (case z_abs => k_is)
    (case z_all => k_is)
    (case z_bool => k_is)
    (case z_int => k_is)
    (case z_isinstance => k_is)
    (case z_len => k_is)
    (case z_list => k_is)
    (case z_range => k_is)
    (case z_str => k_is)
    (case z_tuple => k_is)

