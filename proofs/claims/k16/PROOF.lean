import PyProof.Rows.All
import Wide.All
import OpenK.AllK
import Wide.FinOn
import Lean
import PyProof.EqAt
import PyProof.EqKinds
import PyProof.TupleCall
import PyProof.NeKinds
import KE.KDictSum
import PyProof.Rows.SortRuns
import PySem.SetOps
import PyProof.Rows.SetFrom
import PyProof.DictWalks
import PyProof.FactsAll.set_1
import PyProof.FactsAll.set_2
import PyProof.MakeMany
import PyProof.CollectWalk
import PyProof.Rows.SortShell
import PyProof.StrWalks
import PyProof.StrLoop
import PyProof.SliceStr2
import PyProof.StrBlockI
import PyProof.Rows.StrWeight2
import PyProof.StrOps2
import PyProof.ConsumeWalk
import PyProof.ZipIter
import KE.KIntText
import PyProof.StrBlockG
import PyProof.StrLawsTight
import PyProof.StrLawsChain
import KE.IntTextLaws
import PyProof.Rows.CatFin
import OpenK.KOwn
import KE.KTryMore
import KE.KIsNot
import PyProof.Rows.TopTwo
import PyProof.NsDelKeeps
import PyProof.RulesAs
import PyProof.Rows.Catch
import PyProof.ExcAttrAll.ValueError
import PyProof.TupleIter
import PyProof.Draws
import KE.KUnpack
import PySem.Challenge.RW_midlanes_k16_whole_one_text
section
set_option Elab.async false
set_option linter.all false
set_option maxRecDepth 100000
/-! THE HAND LAYER, for ints, bools, texts, own classes, LISTS and tuples (index, slices, in, append, pop ..), calls, loops. Paste it whole ahead of your own text; what your proof does not reach may be deleted. -/
namespace L2
open PySem PySem.Spec PyProof.Rows

/-- a key: an int or a str -/
noncomputable abbrev Key := Sum Int Str
noncomputable def keyIs : Key → Value → Bool
  | .inl k, v => Value.isInt k v
  | .inr x, v => Value.isStrOf x v
noncomputable def keyH (w : World) : Key → Int
  | .inl k => hashInt k
  | .inr x => hashStr w x
theorem keyIs_shape : ∀ {k : Key} {v : Value}, keyIs k v = true → (∃ i t, k = Sum.inl i ∧ v = Value.int i t) ∨ (∃ x t, k = Sum.inr x ∧ v = Value.str x t)
  | .inl i, v, h => by
    obtain ⟨t, e⟩ := Value.isInt_shape (k := i) (v := v) h
    exact .inl ⟨i, t, rfl, e⟩
  | .inr x, v, h => by
    obtain ⟨t, e⟩ := Value.isStrOf_shape (x := x) (v := v) h
    exact .inr ⟨x, t, rfl, e⟩
theorem keyIs_int (i : Int) (t : Tok) : keyIs (.inl i) (.int i t) = true := by simp [keyIs, Value.isInt]
theorem keyIs_str (x : Str) (t : Tok) : keyIs (.inr x) (.str x t) = true := by simp [keyIs, Value.isStrOf]
theorem key_ll (a b : Int) : decide ((Sum.inl a : Key) = Sum.inl b) = (a == b) := by
  by_cases e : a = b
  · subst e; simp
  · have h : ¬ (Sum.inl a : Key) = Sum.inl b := fun q => e (Sum.inl.inj q)
    rw [decide_eq_false h]
    exact (beq_eq_false_iff_ne.mpr e).symm
theorem key_rr (a b : Str) : decide ((Sum.inr a : Key) = Sum.inr b) = decide (a = b) := by
  by_cases e : a = b
  · subst e; simp
  · have h : ¬ (Sum.inr a : Key) = Sum.inr b := fun q => e (Sum.inr.inj q)
    rw [decide_eq_false h, decide_eq_false e]
theorem key_lr (a : Int) (b : Str) : decide ((Sum.inl a : Key) = Sum.inr b) = false := decide_eq_false (fun q => nomatch q)
theorem key_rl (a : Str) (b : Int) : decide ((Sum.inr a : Key) = Sum.inl b) = false := decide_eq_false (fun q => nomatch q)

noncomputable def mixKind (prog : Program) (w : World) : PySem.KeyKind prog w Key where
  is := keyIs
  hash := keyH w
  inj := fun v a b ha hb => by
    rcases keyIs_shape ha with ⟨i, t, rfl, rfl⟩ | ⟨x, t, rfl, rfl⟩
    · rcases keyIs_shape hb with ⟨j, u, rfl, e⟩ | ⟨y, u, rfl, e⟩
      · injection e with e1 _; rw [e1]
      · exact nomatch e
    · rcases keyIs_shape hb with ⟨j, u, rfl, e⟩ | ⟨y, u, rfl, e⟩
      · exact nomatch e
      · injection e with e1 _; rw [e1]
  byValue := fun k v h => by
    rcases keyIs_shape h with ⟨i, t, rfl, rfl⟩ | ⟨x, t, rfl, rfl⟩ <;> rfl
  pyHash := fun hv h => by
    rcases keyIs_shape hv with ⟨i, t, rfl, rfl⟩ | ⟨x, t, rfl, rfl⟩
    · exact wpAny_pyHash_int h
    · exact wpAny_pyHash_str h
  eqBool := fun hu hv h => by
    rcases keyIs_shape hu with ⟨i, t, rfl, rfl⟩ | ⟨x, t, rfl, rfl⟩
    · rcases keyIs_shape hv with ⟨j, u, rfl, rfl⟩ | ⟨y, u, rfl, rfl⟩
      · rw [key_ll] at h; exact wpAny_eqBool_int h
      · rw [key_lr] at h; exact SeqAt.EqAt.int_str i t y u _ _ _ _ h
    · rcases keyIs_shape hv with ⟨j, u, rfl, rfl⟩ | ⟨y, u, rfl, rfl⟩
      · rw [key_rl] at h; exact SeqAt.EqAt.str_int x t j u _ _ _ _ h
      · rw [key_rr] at h; exact wpAny_eqBool_str h
  «strs» := fun k x t v h => by
    rcases keyIs_shape h with ⟨i, u, rfl, e⟩ | ⟨y, u, rfl, e⟩
    · exact nomatch e
    · injection e with e1 _
      subst e1
      cases v <;> rfl

theorem mixKind_int (prog : Program) (w : World) (i : Int) (t : Tok) : (mixKind prog w).is (.inl i) (.int i t) = true := keyIs_int i t
theorem mixKind_str (prog : Program) (w : World) (x : Str) (t : Tok) : (mixKind prog w).is (.inr x) (.str x t) = true := keyIs_str x t
end L2

namespace L2
open PySem PySem.Spec PyProof.Rows

/-- a value, without the heap -/
inductive V where
  | non | bl (b : Bool) | int (i : Int) | str (x : Str) | byt (b : Array UInt8) | flt (b : UInt64) | ref (a : Addr) | ty (n : String)
  deriving DecidableEq

noncomputable def RelV : V → Value → Prop
  | .non, u => u = Value.none
  | .bl b, u => u = Value.bool b
  | .int i, u => ∃ t, u = Value.int i t
  | .str x, u => ∃ t, u = Value.str x t
  | .byt b, u => ∃ t, u = Value.bytes b t
  | .flt b, u => ∃ t, u = Value.float b t
  | .ref a, u => u = Value.ref a
  | .ty n, u => u = Value.type n

noncomputable abbrev Vals : List V → List Value → Prop := Paired RelV
theorem Vals.length {xs : List V} {us : List Value} (r : Vals xs us) : xs.length = us.length := Paired.length r
theorem Vals.get : ∀ {xs : List V} {us : List Value} {i : Nat} {x : V}, Vals xs us → xs[i]? = some x → ∃ u, us[i]? = some u ∧ RelV x u
  | _, _, _, _, .nil, e => by simp at e
  | _, _, 0, _, .cons r _, e => by simp at e; subst e; exact ⟨_, rfl, r⟩
  | _, _, i + 1, x, .cons _ t, e => by
    obtain ⟨u, h1, h2⟩ := Vals.get (i := i) (x := x) t (by simpa using e)
    exact ⟨u, by simpa using h1, h2⟩
theorem Vals.set {x : V} {u : Value} (r : RelV x u) : ∀ {xs : List V} {us : List Value} (i : Nat), Vals xs us → Vals (xs.set i x) (us.set i u)
  | _, _, _, .nil => .nil
  | _, _, 0, .cons _ t => .cons r t
  | _, _, i + 1, .cons q t => .cons q (Vals.set r i t)
theorem Vals.append : ∀ {xs ys : List V} {us ws : List Value}, Vals xs us → Vals ys ws → Vals (xs ++ ys) (us ++ ws)
  | _, _, _, _, .nil, s => s
  | _, _, _, _, .cons r t, s => .cons r (Vals.append t s)
theorem Vals.take : ∀ {xs : List V} {us : List Value} (n : Nat), Vals xs us → Vals (xs.take n) (us.take n)
  | _, _, 0, _ => .nil
  | _, _, _ + 1, .nil => .nil
  | _, _, n + 1, .cons r t => .cons r (Vals.take n t)
theorem Vals.drop : ∀ {xs : List V} {us : List Value} (n : Nat), Vals xs us → Vals (xs.drop n) (us.drop n)
  | _, _, 0, r => r
  | _, _, _ + 1, .nil => .nil
  | _, _, n + 1, .cons _ t => Vals.drop n t
noncomputable def RelO : Option V → Option Value → Prop
  | some v, some u => RelV v u
  | none, none => True
  | _, _ => False
noncomputable def KV {κ : Type} : List (κ × V) → List (κ × Value) → Prop := Paired fun (p : κ × V) (q : κ × Value) => p.1 = q.1 ∧ RelV p.2 q.2

/-- a key of a dict (00_mix): an int or a text -/
noncomputable def kV : Key → V
  | .inl i => .int i
  | .inr x => .str x

/-- what stands at a tracked address -/
inductive HO where
  /-- a list -/
  | lst (xs : List V)
  /-- a tuple (never changes) -/
  | tup (xs : List V)
  /-- a dict whose keys are ints and texts; one whose keys are tuples of ints and texts (the empty one is both) -/
  | dK (kvs : List (Key × V)) | dT (kvs : List (List Key × V))
  /-- a set of ints: its members, its size -/
  | set (S : Int → Bool) (n : Nat)
  /-- an instance of the class at C, its dict at dx, its attributes -/
  | ins (C dx : Addr) (fs : List (Str × V))
  /-- the dict of the instance at x -/
  | own (x : Addr)
  /-- the dict of an exception -/
  | xd (fs : List (Str × V))
  /-- a bound method, f of x -/
  | met (f x : Addr)
  /-- a range object lo, lo + 1, .. below hi -/
  | rng (lo hi : Int)
  /-- a thing that is known to the object (the script; a dict while a loop walks it): read, never written while it is so -/
  | frz (o : Obj) (u : HO)
  /-- a code object's table -/
  | tbl (ps : Array Value)
  /-- any other thing, by what is true of its one object (a def of one's own: SetO a S n := HO.ext fun h => ..) -/
  | ext (φ : Heap → Prop)

noncomputable abbrev Hp := Addr → Option HO
noncomputable def upd (H : Hp) (a : Addr) (o : HO) : Hp := fun b => if b = a then some o else H b
theorem upd_same {H : Hp} {a : Addr} {o : HO} : upd H a o a = some o := by unfold upd; rw [if_pos rfl]
theorem upd_ne {H : Hp} {a b : Addr} {o : HO} (h : b ≠ a) : upd H a o b = H b := by unfold upd; rw [if_neg h]
theorem upd_upd {H : Hp} {a : Addr} {o u : HO} : upd (upd H a o) a u = upd H a u := by
  funext b; unfold upd; split <;> rfl
/-- two objects of different content stand apart -/
theorem ne_of {H : Hp} {a b : Addr} {o u : HO} (h : H a = some o) (h' : H b = some u) (d : o ≠ u) : a ≠ b := by
  intro e; subst e; rw [h] at h'; exact d (Option.some.inj h')
theorem ne_of_none {H : Hp} {a b : Addr} {o : HO} (h : H a = some o) (h' : H b = none) : a ≠ b := by
  intro e; subst e; rw [h] at h'; cases h'

section
variable (P : Program) (w : World)
noncomputable def ObjOk (H : Hp) (h : Heap) (a : Addr) : HO → Prop
  | .lst xs => xs.length ≤ sizeLine ∧ ∃ (its : List Value) (n : Nat), Vals xs its ∧ h.get? a = some { cls := .type "list", data := .seq its.toArray n }
  | .tup xs => xs.length ≤ sizeLine ∧ ∃ its : List Value, Vals xs its ∧ IsTup h a its.toArray
  | .dK kvs => kvs.length ≤ sizeLine ∧ (a == sysModules) = false ∧ ∃ vs, KV kvs vs ∧ h.DictOf (mixKind P w) a vs
  | .dT kvs => kvs.length ≤ sizeLine ∧ (a == sysModules) = false ∧ ∃ xs : List (List Key × Addr × Value),
      Paired (fun (p : List Key × V) (q : List Key × Addr × Value) => p.1 = q.1 ∧ H q.2.1 = some (.tup (p.1.map kV)) ∧ RelV p.2 q.2.2) kvs xs ∧
      ∃ o es ep, h.get? a = some o ∧ o.ExactDict ∧ o.data = .dict es ep ∧ es.toList = xs.map (entryOfKey (tupleKind (mixKind P w))) ∧ (xs.map (·.1)).Nodup
  | .set S n => h.SetOf (intKind P w) a S n
  | .ins C dx fs => H dx = some (.own a) ∧ fs.length ≤ 1000 ∧ dx ≠ a ∧ h.get? a = some (PySem.W.instObj C dx) ∧
      ∃ mA, h.Ns1 dx mA ∧ (∀ f, RelO (fs.lookup f) (mA f)) ∧ PySem.Within mA (fs.map (·.1))
  | .own _ => ∃ o, h.get? a = some o
  | .xd fs => ∃ mA, h.Ns1 a mA ∧ ∀ f, RelO (fs.lookup f) (mA f)
  | .rng lo hi => ∃ t u v, h.get? a = some { cls := .type "range", data := .fields #[.int lo t, .int hi u, .int 1 v] }
  | .frz o u => h.get? a = some o ∧ ObjOk H h a u
  | .tbl ps => h.get? a = some { cls := .none, data := .fields ps }
  | .met f x => h.get? a = some (PySem.W.methodObj (.ref f) (.ref x))
  | .ext φ => φ h ∧ (∃ o, h.get? a = some o) ∧ ∀ h1 h2 : Heap, φ h1 → (∀ o, h1.get? a = some o → h2.get? a = some o) → φ h2
/-- the abstract heap is held -/
noncomputable def HOk (H : Hp) (h : Heap) : Prop := ∀ a o, H a = some o → ObjOk P w H h a o
end

section
variable {P : Program} {w : World} {H H' : Hp} {h h' : Heap} {a : Addr} {o : HO}
theorem ObjOk.lt (x : ObjOk P w H h a o) : a < h.objs.size := by
  cases o with
  | lst xs => obtain ⟨_, _, _, _, e⟩ := x; exact Heap.lt_size e
  | tup xs => obtain ⟨_, _, _, p⟩ := x; exact p.lt
  | dK kvs => obtain ⟨_, _, _, _, o, _, _, e, _⟩ := x; exact Heap.lt_size e
  | dT kvs => obtain ⟨_, _, _, _, o, _, _, e, _⟩ := x; exact Heap.lt_size e
  | set S n => obtain ⟨o, _, _, _, e, _⟩ := x; exact Heap.lt_size e
  | ins C dx fs => obtain ⟨_, _, _, e, _⟩ := x; exact Heap.lt_size e
  | own y => obtain ⟨_, e⟩ := x; exact Heap.lt_size e
  | xd fs => obtain ⟨_, ⟨_, _, _, e, _⟩, _⟩ := x; exact Heap.lt_size e
  | rng lo hi => obtain ⟨_, _, _, e⟩ := x; exact Heap.lt_size e
  | frz ob u => obtain ⟨e, _⟩ := x; exact Heap.lt_size e
  | tbl ps => exact Heap.lt_size (show h.get? a = some _ from x)
  | met f y => exact Heap.lt_size (show h.get? a = some _ from x)
  | ext φ => obtain ⟨_, ⟨_, e⟩, _⟩ := x; exact Heap.lt_size e
theorem Paired.mapP {α β : Type} {F G : α → β → Prop} : ∀ {l₁ : List α} {l₂ : List β}, Paired F l₁ l₂ → (∀ a b, F a b → G a b) → Paired G l₁ l₂
  | _, _, .nil, _ => .nil
  | _, _, .cons r t, f => .cons (f _ _ r) (Paired.mapP t f)
/-- what an object's description leans on: its own object, its own dict, the tuples -/
theorem ObjOk.stay (x : ObjOk P w H h a o) (k : ∀ b u, (b = a ∨ H b = some (.own a)) → h.get? b = some u → h'.get? b = some u)
    (ho : ∀ b, H b = some (.own a) → H' b = some (.own a)) (ht : ∀ b xs, H b = some (.tup xs) → H' b = some (.tup xs)) : ObjOk P w H' h' a o := by
  induction o with
  | lst xs => obtain ⟨z, its, n, r, e⟩ := x; exact ⟨z, its, n, r, k _ _ (.inl rfl) e⟩
  | tup xs => obtain ⟨z, its, r, ob, e, c⟩ := x; exact ⟨z, its, r, ob, k _ _ (.inl rfl) e, c⟩
  | dK kvs => obtain ⟨z, y, vs, r, ob, es, ep, e, c⟩ := x; exact ⟨z, y, vs, r, ob, es, ep, k _ _ (.inl rfl) e, c⟩
  | dT kvs =>
    obtain ⟨z, y, xs, r, ob, es, ep, e, c⟩ := x
    exact ⟨z, y, xs, Paired.mapP r fun p q z => ⟨z.1, ht _ _ z.2.1, z.2.2⟩, ob, es, ep, k _ _ (.inl rfl) e, c⟩
  | set S n => obtain ⟨ob, es, ep, t, e, c⟩ := x; exact ⟨ob, es, ep, t, k _ _ (.inl rfl) e, c⟩
  | ins C dx fs =>
    obtain ⟨d, z, ne, e, mA, ⟨od, es, ep, e2, c⟩, r⟩ := x
    exact ⟨ho _ d, z, ne, k _ _ (.inl rfl) e, mA, ⟨od, es, ep, k _ _ (.inr d) e2, c⟩, r⟩
  | own y => obtain ⟨ob, e⟩ := x; exact ⟨ob, k _ _ (.inl rfl) e⟩
  | xd fs => obtain ⟨mA, ⟨od, es, ep, e, c⟩, r⟩ := x; exact ⟨mA, ⟨od, es, ep, k _ _ (.inl rfl) e, c⟩, r⟩
  | rng lo hi => obtain ⟨t, u, v, e⟩ := x; exact ⟨t, u, v, k _ _ (.inl rfl) e⟩
  | frz ob u ih => obtain ⟨e, q⟩ := x; exact ⟨k _ _ (.inl rfl) e, ih q⟩
  | tbl ps =>
    have e : h.get? a = some { cls := .none, data := .fields ps } := x
    show h'.get? a = some { cls := .none, data := .fields ps }
    exact k a _ (.inl rfl) e
  | met f y =>
    have e : h.get? a = some (PySem.W.methodObj (.ref f) (.ref y)) := x
    show h'.get? a = some (PySem.W.methodObj (.ref f) (.ref y))
    exact k a _ (.inl rfl) e
  | ext φ => obtain ⟨p, ⟨o, e⟩, st⟩ := x; exact ⟨st _ _ p fun o q => k _ _ (.inl rfl) q, ⟨o, k _ _ (.inl rfl) e⟩, st⟩
theorem HOk.lt (x : HOk P w H h) (e : H a = some o) : a < h.objs.size := (x a o e).lt
theorem HOk.fresh (x : HOk P w H h) (e : h.objs.size ≤ a) : H a = none := by
  cases q : H a with
  | none => rfl
  | some u => exact absurd (Nat.lt_of_lt_of_le (x.lt q) e) (Nat.lt_irrefl _)
/-- every object of the heap is kept -/
theorem HOk.kept (x : HOk P w H h) (k : ∀ b u, h.get? b = some u → h'.get? b = some u) : HOk P w H h' := fun a o e =>
  (x a o e).stay (fun b u _ q => k b u q) (fun _ q => q) fun _ _ q => q
/-- a new object is laid and tracked -/
theorem HOk.laid (x : HOk P w H h) (k : ∀ b u, h.get? b = some u → h'.get? b = some u) (hp : h.objs.size ≤ a) (new : ObjOk P w (upd H a o) h' a o) : HOk P w (upd H a o) h' := fun b u e => by
  have hn := x.fresh hp
  by_cases hb : b = a
  · subst hb; rw [upd_same] at e; cases e; exact new
  · rw [upd_ne hb] at e
    exact (x b u e).stay (fun c v _ q => k c v q) (fun c q => by rw [upd_ne (ne_of_none q hn)]; exact q) fun c xs q => by rw [upd_ne (ne_of_none q hn)]; exact q
end

/-- what may be read as u: it is u, or a known u -/
noncomputable def Rd (H : Hp) (a : Addr) (u : HO) : Prop := H a = some u ∨ ∃ o, H a = some (.frz o u)
theorem Rd.ok {P : Program} {w : World} {H : Hp} {h : Heap} {a : Addr} {u : HO} (r : Rd H a u) (x : HOk P w H h) : ObjOk P w H h a u := by
  rcases r with r | ⟨o, r⟩
  · exact x a u r
  · obtain ⟨_, q⟩ := x a _ r
    exact q
/-- what may be written -/
noncomputable def Mut : Option HO → Prop
  | some (.lst _) => True
  | some (.dK _) => True
  | some (.dT _) => True
  | some (.set _ _) => True
  | some (.ins _ _ _) => True
  | some (.ext _) => True
  | _ => False
section
variable {P : Program} {w : World} {H : Hp} {h h' : Heap} {x e : Addr} {o' : HO}
/-- the object at e is changed: x itself, or the dict of the instance x -/
theorem HOk.write (ok : HOk P w H h) (mu : Mut (H x)) (he : e = x ∨ H e = some (.own x)) (k : ∀ b u, b ≠ e → h.get? b = some u → h'.get? b = some u) (heo : ∃ u, h'.get? e = some u)
    (new : ObjOk P w (upd H x o') h' x o') : HOk P w (upd H x o') h' := fun b u q => by
  have nown : ∀ c y, H c = some (.own y) → c ≠ x := fun c y r z => by subst z; rw [r] at mu; exact mu
  have ntup : ∀ c xs, H c = some (.tup xs) → c ≠ x := fun c xs r z => by subst z; rw [r] at mu; exact mu
  by_cases hb : b = x
  · subst hb; rw [upd_same] at q; cases q; exact new
  · rw [upd_ne hb] at q
    by_cases hbe : b = e
    · have q' : H b = some (.own x) := by
        rcases he with z | z
        · exact absurd (hbe.trans z) hb
        · rw [hbe]; exact z
      rw [q] at q'; cases q'
      obtain ⟨v, hv⟩ := heo
      exact ⟨v, by rw [hbe]; exact hv⟩
    · refine (ok b u q).stay (fun c v hc r => k c v ?_ r) (fun c r => by rw [upd_ne (nown c b r)]; exact r) fun c xs r => by rw [upd_ne (ntup c xs r)]; exact r
      rcases hc with rfl | hc
      · exact hbe
      · rintro rfl
        rcases he with z | z
        · exact nown c b hc z
        · rw [hc] at z; cases z; exact hb rfl
end

/-! ### kept unless tracked; of the frames at fs (the callers') the slots may change (an exception that passes writes there); of the records at ex (iterators) nothing is said -/
structure Un (fs ex : List Addr) (H H' : Hp) (h h' : Heap) : Prop where
  keep : ∀ b o, h.get? b = some o → H b = none → b ∉ fs → b ∉ ex → h'.get? b = some o
  slot : ∀ b o, h.get? b = some o → H b = none → b ∈ fs → b ∉ ex → ∃ sl, h'.get? b = some { o with slots := sl }
  free : ∀ b o, h.get? b = some o → H b = none → b ∉ ex → H' b = none
  there : ∀ b o, h.get? b = some o → b ∉ ex → ∃ o', h'.get? b = some o'
  tups : ∀ b xs, H b = some (.tup xs) → H' b = some (.tup xs)
  frzs : ∀ b o u, H b = some (.frz o u) → H' b = some (.frz o u)
  tbls : ∀ b ps, H b = some (.tbl ps) → ∃ more, H' b = some (.tbl (ps ++ more))
section
variable {fs fs' ex ex' : List Addr} {H H1 H2 : Hp} {h h1 h2 h' : Heap} {a x e : Addr} {o : HO}
theorem Un.any (u : Un fs ex H H1 h h1) {b : Addr} {ob : Obj} (q : h.get? b = some ob) (n : H b = none) (hx : b ∉ ex) : ∃ sl, h1.get? b = some { ob with slots := sl } := by
  by_cases hb : b ∈ fs
  · exact u.slot b ob q n hb hx
  · exact ⟨ob.slots, u.keep b ob q n hb hx⟩
theorem Un.kept (k : ∀ b u, h.get? b = some u → h'.get? b = some u) : Un fs ex H H h h' :=
  ⟨fun b ob q _ _ _ => k b ob q, fun b ob q _ _ _ => ⟨ob.slots, k b ob q⟩, fun _ _ _ n _ => n, fun b ob q _ => ⟨ob, k b ob q⟩, fun _ _ q => q, fun _ _ _ q => q, fun _ ps q => ⟨#[], by rw [q]; simp⟩⟩
theorem Un.refl : Un fs ex H H h h := Un.kept fun _ _ q => q
theorem Un.laid (k : ∀ b u, h.get? b = some u → h'.get? b = some u) (hp : h.objs.size ≤ a) (hn : H a = none) : Un fs ex H (upd H a o) h h' where
  keep := fun b u q _ _ _ => k b u q
  slot := fun b u q _ _ _ => ⟨u.slots, k b u q⟩
  free := fun b u q n _ => by rw [upd_ne (Nat.ne_of_lt (Nat.lt_of_lt_of_le (Heap.lt_size q) hp))]; exact n
  there := fun b u q _ => ⟨u, k b u q⟩
  tups := fun b xs q => by rw [upd_ne (ne_of_none q hn)]; exact q
  frzs := fun b u xs q => by rw [upd_ne (ne_of_none q hn)]; exact q
  tbls := fun b ps q => ⟨#[], by rw [upd_ne (ne_of_none q hn), q]; simp⟩
theorem Un.write (mu : Mut (H x)) (he : e = x ∨ H e = some (.own x)) (k : ∀ b u, b ≠ e → h.get? b = some u → h'.get? b = some u) (heo : ∃ u, h'.get? e = some u) : Un fs ex H (upd H x o) h h' := by
  have hx : ∀ b, H b = none → b ≠ x := fun b n z => by subst z; rw [n] at mu; exact mu
  have hb : ∀ b, H b = none → b ≠ e := fun b n z => by
    subst z
    rcases he with r | r
    · exact hx b n r
    · rw [n] at r; cases r
  have hm : ∀ b u, H b = some u → ¬ Mut (some u) → b ≠ x := fun b u q nm z => by subst z; rw [q] at mu; exact nm mu
  refine ⟨fun b u q n _ _ => k b u (hb b n) q, fun b u q n _ _ => ⟨u.slots, k b u (hb b n) q⟩, fun b u q n _ => by rw [upd_ne (hx b n)]; exact n, fun b u q _ => ?_,
    fun b xs q => by rw [upd_ne (hm b _ q fun z => z)]; exact q, fun b u xs q => by rw [upd_ne (hm b _ q fun z => z)]; exact q, fun b ps q => ⟨#[], by rw [upd_ne (hm b _ q fun z => z), q]; simp⟩⟩
  by_cases hbe : b = e
  · subst hbe; exact heo
  · exact ⟨u, k b u hbe q⟩
end

/-! ### the heap without what is tracked -/
noncomputable def trk (h : Heap) (H : Hp) : List Addr := (List.range h.objs.size).filter fun a => (H a).isSome
noncomputable def hidT (h : Heap) (H : Hp) : Heap := PySem.W.hideAll h (trk h H)
theorem hidT_size (h : Heap) (H : Hp) : (hidT h H).objs.size = h.objs.size := PySem.W.hideAll_size _ _
theorem hidT_get {h : Heap} {H : Hp} {b : Addr} {o : Obj} (e : h.get? b = some o) (n : H b = none) : (hidT h H).get? b = some o :=
  PySem.W.hideAll_get _ e fun hm => by
    have q : (H b).isSome = true := (List.mem_filter.mp hm).2
    rw [n] at q; simp at q
theorem of_hidT {h : Heap} {H : Hp} {b : Addr} {o : Obj} (e : (hidT h H).get? b = some o) : h.get? b = some o ∧ H b = none := by
  have e' : h.get? b = some o := PySem.W.of_hideAll (trk h H) e
  refine ⟨e', ?_⟩
  cases q : H b with
  | none => rfl
  | some x =>
    have hm : b ∈ trk h H := List.mem_filter.mpr ⟨List.mem_range.mpr (Heap.lt_size e'), by simp [q]⟩
    have z : (hidT h H).get? b = none := PySem.W.hideAll_none (trk h H) hm
    rw [z] at e; cases e

/-! ### OpenK's ledger, filled with every new object but one -/
noncomputable def allNews (g h : Heap) (L : Addr) : List (Addr × Obj) := (List.range h.objs.size).filterMap fun a => if a = L ∨ (g.get? a).isSome = true then none else (h.get? a).map fun o => (a, o)
noncomputable def rest (g h : Heap) (L d : Addr) : List (Addr × Obj) := (allNews g h L).filter fun p => decide (p.1 ≠ d)
end L2

namespace L2
open PySem PySem.Spec PyProof.Rows

/-- the module's facts, over the base: the heap at the law's entry without what is tracked there -/
structure Mod (K : PySem.W.Frag) (mg : Str → Option Value) (base : Heap) : Prop where
  kin : K.In base
  glob : base.Ns mainGlobals mg
  blt : ∃ mb, base.Ns builtinsNs mb ∧ ∀ x : Str, x ≠ "__name__" → mb x = bootBuiltins x
  nolimit : base.NoLimit

/-- the context: a def's body (or a comprehension's block) running. base: fixed through the whole law; s₀, H₀: the entry; outer: the frames whose slots others may change (a def's callers); stack: all frames that run;
   ex: iterators that were made ahead of the entry and are walked here (a comprehension's); fn: the names whose cells were made at the entry (a def: all; a comprehension's block: its own); calm: not within an except suite; pn: pins that every state bears; xe: what is wanted of an exception that leaves the code -/
structure Cx where
  prog : Program
  w : World
  K : PySem.W.Frag
  mg : Str → Option Value
  base : Heap
  A : Around
  N : List Str
  s₀ : Shared
  H₀ : Hp
  env : Env
  outer : List Env
  stack : List Env
  ex : List Addr
  fn : Str → Bool
  calm : Bool
  pn : List (Addr × Obj)
  xe : Value → Shared → Prop
/-- the callers' frames -/
noncomputable def frs (l : List Env) : List Addr := l.filterMap (·.frame)
noncomputable abbrev Cx.fs (X : Cx) : List Addr := frs X.outer

noncomputable def Vis (sc : Scope) (x : Str) : Prop := sc.names.lookup x = some .local ∨ sc.names.lookup x = some .cell ∨ sc.names.lookup x = some .free
noncomputable def Loc (sc : Scope) (x : Str) : Prop := sc.names.lookup x = some .local ∨ sc.names.lookup x = some .cell
noncomputable def Look (env : Env) (h : Heap) (m : Str → Option Value) (x : Str) (u : Value) : Prop :=
  (env.kindOf x = some .local ∧ m x = some u) ∨ ((env.kindOf x = some .cell ∨ env.kindOf x = some .free) ∧ ∃ c, env.cells.lookup x = some c ∧ h.IsCell c (some u))

structure Cx.Ok (X : Cx) : Prop where
  mod : Mod X.K X.mg X.base
  kind : X.env.scope.kind = .function
  glob : X.env.globals = mainGlobals
  blt : X.env.builtins = builtinsNs
  above : X.s₀.heap.objs.size ≤ X.env.locals
  inj : ∀ x y c, X.env.cells.lookup x = some c → X.env.cells.lookup y = some c → x = y
  has : ∀ x, (X.env.kindOf x = some .cell ∨ X.env.kindOf x = some .free) → ∃ c, X.env.cells.lookup x = some c
  cab : ∀ x c, X.fn x = true → X.env.cells.lookup x = some c → X.s₀.heap.objs.size ≤ c
  hd : X.calm = true → X.A.handled = none
  frames : X.A.frames = some X.stack
  stk : X.stack = X.outer ∨ (X.stack = X.env :: X.outer ∧ X.env.frame = some X.env.locals)
  exf : ∀ b ∈ X.ex, b ≠ X.env.locals ∧ ∀ x c, X.env.cells.lookup x = some c → c ≠ b
  bs : ∀ b o, X.base.get? b = some o → X.s₀.heap.get? b = some o ∧ X.H₀ b = none
  bsz : X.base.objs.size ≤ X.s₀.heap.objs.size
  noex : ∀ b o, X.base.get? b = some o → b ∉ X.ex
  exfs : ∀ b ∈ X.ex, b ∉ X.fs
  funs : X.s₀.heap.FunFrames X.base X.outer
  frf : ∀ b ∈ X.fs, X.H₀ b = none

structure Inv (X : Cx) (pins : List (Addr × Obj)) (σ : List (Option V)) (H : Hp) (s : Shared) : Prop where
  ok : X.Ok
  os : s.os = X.s₀.os
  bare : AllBare s.gens
  base : Un X.fs X.ex X.H₀ H X.s₀.heap s.heap
  loc : ∃ m, s.heap.Ns X.env.locals m ∧ ∀ (i : Nat) (x : Str) (v : V), X.N[i]? = some x → σ[i]? = some (some v) → Vis X.env.scope x → ∃ u, RelV v u ∧ Look X.env s.heap m x u
  cell : ∀ x c, X.env.cells.lookup x = some c → ∃ v, s.heap.IsCell c v
  free : H X.env.locals = none
  freeC : ∀ x c, X.env.cells.lookup x = some c → H c = none
  pin : ∀ p ∈ X.pn ++ pins, s.heap.get? p.1 = some p.2 ∧ H p.1 = none ∧ p.1 ≠ X.env.locals ∧ p.1 ∉ X.fs ∧ ∀ v, p.2.data ≠ .cell v
  hok : HOk X.prog X.w H s.heap
  len : σ.length = X.N.length

section
variable {X : Cx} {pins : List (Addr × Obj)} {σ : List (Option V)} {H H' : Hp} {s : Shared} {h' : Heap}

theorem Cx.Ok.nofr (ok : X.Ok) {b : Addr} {o : Obj} (e : X.base.get? b = some o) : b ∉ X.fs := fun hb => by
  have := (ok.funs.mem hb).1
  rw [e] at this; cases this
theorem Inv.bs (I : Inv X pins σ H s) : ∀ b o, X.base.get? b = some o → s.heap.get? b = some o ∧ H b = none := fun b o e =>
  ⟨I.base.keep b o (I.ok.bs b o e).1 (I.ok.bs b o e).2 (I.ok.nofr e) (I.ok.noex b o e), I.base.free b o (I.ok.bs b o e).1 (I.ok.bs b o e).2 (I.ok.noex b o e)⟩
theorem Inv.bk (I : Inv X pins σ H s) : ∀ b o, X.base.get? b = some o → s.heap.get? b = some o := fun b o e => (I.bs b o e).1
theorem Inv.mod (I : Inv X pins σ H s) : Mod X.K X.mg X.base := I.ok.mod
theorem Inv.kIn (I : Inv X pins σ H s) : X.K.In s.heap := I.ok.mod.kin.keeps I.bk
theorem Inv.lt (I : Inv X pins σ H s) : X.env.locals < s.heap.objs.size := let ⟨_, hn, _⟩ := I.loc; hn.lt
theorem Inv.sz (I : Inv X pins σ H s) : X.s₀.heap.objs.size ≤ s.heap.objs.size := Nat.le_trans I.ok.above (Nat.le_of_lt I.lt)
theorem Inv.nofs (I : Inv X pins σ H s) {a : Addr} (h : s.heap.objs.size ≤ a) : a ∉ X.fs := fun hb => by
  obtain ⟨_, o, ho, _⟩ := I.ok.funs.mem hb
  exact absurd (Nat.lt_of_lt_of_le (Heap.lt_size ho) (Nat.le_trans I.sz h)) (Nat.lt_irrefl _)
theorem Inv.cne (I : Inv X pins σ H s) : ∀ x c, X.env.cells.lookup x = some c → c ≠ X.env.locals := fun x c e z => by
  obtain ⟨v, o, ho, hd⟩ := I.cell x c e
  obtain ⟨m, ⟨o', es, ep, ho', hd', _⟩, _⟩ := I.loc
  rw [z, ho'] at ho; cases ho; rw [hd'] at hd; cases hd
theorem Inv.funs (I : Inv X pins σ H s) : s.heap.FunFrames X.base X.outer := by
  have all : ∀ (l : List Env), (∀ b ∈ frs l, b ∈ X.fs) → X.s₀.heap.FunFrames X.base l → s.heap.FunFrames X.base l := by
    intro l
    induction l with
    | nil => intro _ _; trivial
    | cons env r ih =>
      intro hs hl
      obtain ⟨hk, ⟨L, o, hf, hn, ho, hd⟩, hr⟩ := hl
      have hL : L ∈ X.fs := hs L (by unfold frs; rw [List.filterMap_cons, hf]; exact List.mem_cons_self)
      obtain ⟨sl, e⟩ := I.base.slot L o ho (I.ok.frf L hL) hL fun z => I.ok.exfs L z hL
      exact ⟨hk, ⟨L, _, hf, hn, e, hd⟩, ih (fun b hb => hs b (by unfold frs; rw [List.filterMap_cons, hf]; exact List.mem_cons_of_mem _ hb)) hr⟩
  exact all X.outer (fun _ hb => hb) I.ok.funs

/-- the frames that run, for a call -/
theorem Inv.stack (I : Inv X pins σ H s) : s.heap.FunFrames X.base X.stack := by
  rcases I.ok.stk with e | ⟨e, hf⟩
  · rw [e]; exact I.funs
  · rw [e]
    obtain ⟨m, hn, _⟩ := I.loc
    refine .cons (by rw [I.ok.kind]; decide) hf hn ?_ I.funs
    exact Heap.get?_none_of_le (Nat.le_trans I.ok.bsz I.ok.above)
theorem Inv.stkSub (I : Inv X pins σ H s) : ∀ b ∈ frs X.stack, b ∈ X.env.locals :: X.fs := fun b hb => by
  rcases I.ok.stk with e | ⟨e, hf⟩
  · rw [e] at hb; exact List.mem_cons_of_mem _ hb
  · rw [e] at hb
    unfold frs at hb
    rw [List.filterMap_cons, hf] at hb
    exact hb
theorem Inv.stkFree (I : Inv X pins σ H s) : ∀ b ∈ frs X.stack, H b = none := fun b hb => by
  rcases List.mem_cons.mp (I.stkSub b hb) with e | hb
  · rw [e]; exact I.free
  · obtain ⟨_, o, ho, _⟩ := I.ok.funs.mem hb
    exact I.base.free b o ho (I.ok.frf b hb) fun z => I.ok.exfs b z hb

/-- THE STEP: the untracked objects but the frame and the records at ch are kept (the callers' frames up to slots), the frame's map is kept, the new abstract heap is held -/
theorem Inv.step {g' : Array GenState} {t' : Nat} {d' : Drawn} {ch : List Addr} (I : Inv X pins σ H s)
    (hch : ∀ b ∈ ch, (b ∈ X.ex ∨ X.s₀.heap.objs.size ≤ b) ∧ b ≠ X.env.locals ∧ (∀ x c, X.env.cells.lookup x = some c → c ≠ b) ∧ ∀ p ∈ X.pn ++ pins, p.1 ≠ b)
    (keep : ∀ b o, b ≠ X.env.locals → b ∉ X.fs → b ∉ ch → s.heap.get? b = some o → H b = none → h'.get? b = some o)
    (slot : ∀ b o, b ≠ X.env.locals → b ∈ X.fs → b ∉ ch → s.heap.get? b = some o → H b = none → ∃ sl, h'.get? b = some { o with slots := sl }) (free : ∀ b o, b ∉ ch → s.heap.get? b = some o → H b = none → H' b = none)
    (there : ∀ b o, b ∉ ch → s.heap.get? b = some o → ∃ o', h'.get? b = some o')
    (tups : ∀ b xs, H b = some (.tup xs) → H' b = some (.tup xs)) (frzs : ∀ b o u, H b = some (.frz o u) → H' b = some (.frz o u)) (tbls : ∀ b ps, H b = some (.tbl ps) → ∃ more, H' b = some (.tbl (ps ++ more)))
    (ns : ∀ m, s.heap.Ns X.env.locals m → h'.Ns X.env.locals m) (hok : HOk X.prog X.w H' h') (hg : AllBare g') :
    Inv X pins σ H' { s with heap := h', gens := g', drawn := d', toks := t' } := by
  have neL : ∀ b o, X.s₀.heap.get? b = some o → b ≠ X.env.locals := fun b o e => Nat.ne_of_lt (Nat.lt_of_lt_of_le (Heap.lt_size e) I.ok.above)
  have neC : ∀ b o, X.s₀.heap.get? b = some o → b ∉ X.ex → b ∉ ch := fun b o e hx hb => by
    rcases (hch b hb).1 with z | z
    · exact hx z
    · exact absurd (Nat.lt_of_lt_of_le (Heap.lt_size e) z) (Nat.lt_irrefl _)
  have cellK : ∀ x c, X.env.cells.lookup x = some c → ∀ v, s.heap.IsCell c v → h'.IsCell c v := fun x c e v ⟨o, ho, hd⟩ => by
    have nch : c ∉ ch := fun z => (hch c z).2.2.1 x c e rfl
    by_cases hc : c ∈ X.fs
    · obtain ⟨sl, q⟩ := slot c o (I.cne x c e) hc nch ho (I.freeC x c e)
      exact ⟨_, q, hd⟩
    · exact ⟨o, keep c o (I.cne x c e) hc nch ho (I.freeC x c e), hd⟩
  refine ⟨I.ok, I.os, hg, ⟨fun b o e n hb hx => ?_, fun b o e n hb hx => ?_, fun b o e n hx => ?_, fun b o e hx => ?_, fun b xs e => tups b xs (I.base.tups b xs e), fun b o xs e => frzs b o xs (I.base.frzs b o xs e), fun b ps e => ?_⟩, ?_, fun x c e => ?_, ?_, fun x c e => ?_, fun p hp => ?_, hok, I.len⟩
  · exact keep b o (neL b o e) hb (neC b o e hx) (I.base.keep b o e n hb hx) (I.base.free b o e n hx)
  · obtain ⟨sl, e1⟩ := I.base.slot b o e n hb hx
    obtain ⟨sl', e2⟩ := slot b _ (neL b o e) hb (neC b o e hx) e1 (I.base.free b o e n hx)
    exact ⟨sl', e2⟩
  · obtain ⟨o', e1⟩ := I.base.there b o e hx
    exact free b o' (neC b o e hx) e1 (I.base.free b o e n hx)
  · obtain ⟨o', e1⟩ := I.base.there b o e hx
    exact there b o' (neC b o e hx) e1
  · obtain ⟨m1, e1⟩ := I.base.tbls b ps e
    obtain ⟨m2, e2⟩ := tbls b _ e1
    exact ⟨m1 ++ m2, by rw [e2, Array.append_assoc]⟩
  · obtain ⟨m, hn, hl⟩ := I.loc
    refine ⟨m, ns m hn, fun i x v e1 e2 e3 => ?_⟩
    obtain ⟨u, r, l⟩ := hl i x v e1 e2 e3
    refine ⟨u, r, ?_⟩
    rcases l with l | ⟨k, c, e, z⟩
    · exact .inl l
    · exact .inr ⟨k, c, e, cellK x c e _ z⟩
  · obtain ⟨v, z⟩ := I.cell x c e
    exact ⟨v, cellK x c e v z⟩
  · obtain ⟨m, ⟨o, _, _, ho, _⟩, _⟩ := I.loc
    exact free _ o (fun z => (hch _ z).2.1 rfl) ho I.free
  · obtain ⟨v, o, ho, hd⟩ := I.cell x c e
    exact free c o (fun z => (hch c z).2.2.1 x c e rfl) ho (I.freeC x c e)
  · obtain ⟨e, n, ne, nf, d⟩ := I.pin p hp
    have nch : p.1 ∉ ch := fun z => (hch p.1 z).2.2.2 p hp rfl
    exact ⟨keep p.1 p.2 ne nf nch e n, free p.1 p.2 nch e n, ne, nf, d⟩
/-- .. where the frame's own object is kept too -/
theorem Inv.un {t' : Nat} (I : Inv X pins σ H s) (u : Un X.fs [] H H' s.heap h') (hok : HOk X.prog X.w H' h') : Inv X pins σ H' { s with heap := h', toks := t' } := by
  obtain ⟨m, ⟨o, es, ep, ho, r⟩, _⟩ := id I.loc
  obtain ⟨sl, hL⟩ := u.any ho I.free (by simp)
  exact I.step (g' := s.gens) (d' := s.drawn) (ch := []) (fun _ z => nomatch z) (fun b o _ hb _ e n => u.keep b o e n hb (by simp)) (fun b o _ hb _ e n => u.slot b o e n hb (by simp)) (fun b o _ e n => u.free b o e n (by simp)) (fun b o _ e => u.there b o e (by simp)) u.tups u.frzs u.tbls (fun m' hm => by
    obtain ⟨o', es', ep', ho', r'⟩ := hm
    rw [ho] at ho'; cases ho'
    exact ⟨_, es', ep', hL, r'⟩) hok I.bare
/-- behind a call (or a comprehension's block): the slots of this frame may have changed too, the records at ch may have turned -/
theorem Inv.call {g' : Array GenState} {t' : Nat} {d' : Drawn} {ch : List Addr} (I : Inv X pins σ H s) (u : Un (frs X.stack) ch H H' s.heap h') (hok : HOk X.prog X.w H' h') (hg : AllBare g')
    (hch : ∀ b ∈ ch, (b ∈ X.ex ∨ X.s₀.heap.objs.size ≤ b) ∧ b ≠ X.env.locals ∧ (∀ x c, X.env.cells.lookup x = some c → c ≠ b) ∧ ∀ p ∈ X.pn ++ pins, p.1 ≠ b) :
    Inv X pins σ H' { s with heap := h', gens := g', drawn := d', toks := t' } := by
  obtain ⟨m, ⟨o, es, ep, ho, r⟩, _⟩ := id I.loc
  obtain ⟨sl, hL⟩ := u.any ho I.free fun z => (hch _ z).2.1 rfl
  exact I.step (ch := ch) hch (fun b o hL hb hc e n => u.keep b o e n (fun z => (List.mem_cons.mp (I.stkSub b z)).elim hL hb) hc) (fun b o _ _ hc e n => u.any e n hc) (fun b o hc e n => u.free b o e n hc) (fun b o hc e => u.there b o e hc) u.tups u.frzs u.tbls (fun m' hm => by
    obtain ⟨o', es', ep', ho', r'⟩ := hm
    rw [ho] at ho'; cases ho'
    exact ⟨_, es', ep', hL, r'⟩) hok hg
/-- an untracked record of ours (an iterator) has turned -/
theorem Inv.turned {t' : Nat} {it : Addr} (I : Inv X pins σ H s) (k : ∀ b o, b ≠ it → s.heap.get? b = some o → h'.get? b = some o) (hn : H it = none) (hL : it ≠ X.env.locals)
    (h1 : it ∈ X.ex ∨ X.s₀.heap.objs.size ≤ it) (h2 : ∀ x c, X.env.cells.lookup x = some c → c ≠ it) (h3 : ∀ p ∈ X.pn ++ pins, p.1 ≠ it) : Inv X pins σ H { s with heap := h', toks := t' } := by
  have nit : ∀ b u, H b = some u → b ≠ it := fun b u e z => by rw [z, hn] at e; cases e
  refine I.step (g' := s.gens) (d' := s.drawn) (ch := [it]) (fun b hb => ?_) (fun b o _ _ hc e _ => k b o (fun z => hc (by simp [z])) e) (fun b o _ _ hc e _ => ⟨o.slots, k b o (fun z => hc (by simp [z])) e⟩) (fun _ _ _ _ n => n)
    (fun b o hc e => ⟨o, k b o (fun z => hc (by simp [z])) e⟩) (fun _ _ e => e) (fun _ _ _ e => e) (fun b ps e => ⟨#[], by rw [e]; simp⟩) (fun m hm => ?_) (fun b u e => ?_) I.bare
  · have e : b = it := by simpa using hb
    subst e
    exact ⟨h1, hL, h2, h3⟩
  · obtain ⟨o, es, ep, ho, r⟩ := hm
    exact ⟨o, es, ep, k _ o (Ne.symm hL) ho, r⟩
  · refine (I.hok b u e).stay (fun c v hc q => k c v ?_ q) (fun _ q => q) fun _ _ q => q
    rcases hc with z | z
    · rw [z]; exact nit b u e
    · exact nit c _ z
theorem Inv.tok (I : Inv X pins σ H s) (t : Nat) : Inv X pins σ H { s with toks := t } := I.un (h' := s.heap) (t' := t) Un.refl I.hok
/-- all objects kept -/
theorem Inv.kept {t' : Nat} (I : Inv X pins σ H s) (k : ∀ b u, s.heap.get? b = some u → h'.get? b = some u) : Inv X pins σ H { s with heap := h', toks := t' } := I.un (Un.kept k) (I.hok.kept k)
/-- a new object laid and tracked -/
theorem Inv.laid {a : Addr} {o : HO} {t' : Nat} (I : Inv X pins σ H s) (k : ∀ b u, s.heap.get? b = some u → h'.get? b = some u) (hp : s.heap.objs.size ≤ a) (new : ObjOk X.prog X.w (upd H a o) h' a o) :
    Inv X pins σ (upd H a o) { s with heap := h', toks := t' } := I.un (Un.laid k hp (I.hok.fresh hp)) (I.hok.laid k hp new)
/-- an object written -/
theorem Inv.write {x e : Addr} {o : HO} {t' : Nat} (I : Inv X pins σ H s) (mu : Mut (H x)) (he : e = x ∨ H e = some (.own x)) (k : ∀ b u, b ≠ e → s.heap.get? b = some u → h'.get? b = some u) (heo : ∃ u, h'.get? e = some u)
    (new : ObjOk X.prog X.w (upd H x o) h' x o) : Inv X pins σ (upd H x o) { s with heap := h', toks := t' } := I.un (Un.write mu he k heo) (I.hok.write mu he k heo new)
theorem Inv.pins_of {pins' : List (Addr × Obj)} (I : Inv X pins σ H s) (h : ∀ p ∈ pins', s.heap.get? p.1 = some p.2 ∧ H p.1 = none ∧ p.1 ≠ X.env.locals ∧ p.1 ∉ X.fs ∧ ∀ v, p.2.data ≠ .cell v) : Inv X pins' σ H s :=
  ⟨I.ok, I.os, I.bare, I.base, I.loc, I.cell, I.free, I.freeC, fun p hp => (List.mem_append.mp hp).elim (fun z => I.pin p (List.mem_append_left _ z)) (h p), I.hok, I.len⟩

theorem nodup_ix {N : List Str} (hN : N.Nodup) {i j : Nat} {x : Str} (a : N[i]? = some x) (b : N[j]? = some x) : i = j := by
  obtain ⟨h1, e1⟩ := List.getElem?_eq_some_iff.mp a
  obtain ⟨h2, e2⟩ := List.getElem?_eq_some_iff.mp b
  exact (List.getElem_inj hN).mp (e1.trans e2.symm)

/-- a name is stored; what changed -/
theorem store_ok2 {M : Model} {A : Around} {E : Value → Shared → Prop} {i : Nat} {x : Str} {v : V} {u : Value} {Q : Unit → Shared → Prop} (I : Inv X pins σ H s) (hN : X.N.Nodup) (hi : X.N[i]? = some x) (hx : Loc X.env.scope x) (r : RelV v u)
    (h : ∀ s', Inv X pins (σ.set i (some v)) H s' → (∃ a, Heap.SameBut a s.heap s'.heap ∧ (a = X.env.locals ∨ X.env.cells.lookup x = some a)) → Q () s') (hf : X.fn x = true ∨ X.env.scope.names.lookup x = some .local := by first | exact .inl rfl | exact .inr rfl | assumption) : wpAny M A (storeName X.env x u) Q E s := by
  obtain ⟨m, hn, hl⟩ := id I.loc
  have hcls : (X.env.scope.kind == .class || (X.env.scope.kind == .module && X.env.locals != X.env.globals)) = false := by rw [I.ok.kind]; rfl
  have hiσ : i < σ.length := by rw [I.len]; exact (List.getElem?_eq_some_iff.mp hi).1
  have cne := I.cne
  have tracked : ∀ {a : Addr} {h' : Heap}, (∃ o, s.heap.get? a = some o ∧ H a = none) → Heap.SameBut a s.heap h' → HOk X.prog X.w H h' := fun {a h'} ha hs b ob e => by
    obtain ⟨_, _, hfree⟩ := ha
    refine (I.hok b ob e).stay (fun c w' hc q => (hs.2 c ?_).trans q) (fun _ q => q) fun _ _ q => q
    rintro rfl
    rcases hc with rfl | hc
    · rw [hfree] at e; cases e
    · rw [hfree] at hc; cases hc
  rcases hx with hk | hk
  · refine wpAny_storeName_local hk hn (fun h' hn' hs => ?_) hcls
    obtain ⟨oL, _, _, hoL, _⟩ := id hn
    refine h _ ⟨I.ok, I.os, I.bare, ⟨fun b o e n hb hx => ?_, fun b o e n hb hx => ?_, I.base.free, fun b o e hx => ?_, I.base.tups, I.base.frzs, I.base.tbls⟩, ⟨_, hn', fun j y v' e1 e2 e3 => ?_⟩, fun y c e => ?_, I.free, I.freeC, fun p hp => ?_, tracked ⟨oL, hoL, I.free⟩ hs, by simpa using I.len⟩ ⟨_, hs, .inl rfl⟩
    · exact (hs.2 b (Nat.ne_of_lt (Nat.lt_of_lt_of_le (Heap.lt_size e) I.ok.above))).trans (I.base.keep b o e n hb hx)
    · obtain ⟨sl, e1⟩ := I.base.slot b o e n hb hx
      exact ⟨sl, (hs.2 b (Nat.ne_of_lt (Nat.lt_of_lt_of_le (Heap.lt_size e) I.ok.above))).trans e1⟩
    · obtain ⟨o', e1⟩ := I.base.there b o e hx
      exact ⟨o', (hs.2 b (Nat.ne_of_lt (Nat.lt_of_lt_of_le (Heap.lt_size e) I.ok.above))).trans e1⟩
    · by_cases hj : j = i
      · subst hj
        rw [hi] at e1; cases e1
        rw [List.getElem?_set_self hiσ] at e2
        cases e2
        exact ⟨u, r, .inl ⟨hk, by simp⟩⟩
      · rw [List.getElem?_set_ne (Ne.symm hj)] at e2
        obtain ⟨u', r', q⟩ := hl j y v' e1 e2 e3
        refine ⟨u', r', ?_⟩
        rcases q with ⟨k, e⟩ | ⟨k, c, e, z⟩
        · refine .inl ⟨k, ?_⟩
          have : y ≠ x := fun e => hj (nodup_ix hN e1 (e ▸ hi))
          simp [this, e]
        · exact .inr ⟨k, c, e, z.sameBut hs (cne y c e)⟩
    · obtain ⟨w', z⟩ := I.cell y c e
      exact ⟨w', z.sameBut hs (cne y c e)⟩
    · obtain ⟨e, n, ne, nf, d⟩ := I.pin p hp
      exact ⟨(hs.2 p.1 ne).trans e, n, ne, nf, d⟩
  · have hfn : X.fn x = true := by
      rcases hf with z | z
      · exact z
      · rw [z] at hk; cases hk
    obtain ⟨c, hc⟩ := I.ok.has x (.inl hk)
    obtain ⟨w', z⟩ := I.cell x c hc
    refine wpAny_storeName_cell I.ok.kind hk hc z (fun h' hc' hs => ?_)
    obtain ⟨oc, hoc, hocd⟩ := id z
    refine h { s with heap := h' } ⟨I.ok, I.os, I.bare, ⟨fun b o e n hb hx => ?_, fun b o e n hb hx => ?_, I.base.free, fun b o e hx => ?_, I.base.tups, I.base.frzs, I.base.tbls⟩, ⟨m, hn.sameBut hs (Ne.symm (cne x c hc)), fun j y v' e1 e2 e3 => ?_⟩, fun y c' e => ?_, I.free, I.freeC, fun p hp => ?_, tracked ⟨oc, hoc, I.freeC x c hc⟩ hs, by simpa using I.len⟩ ⟨c, hs, .inr hc⟩
    · exact (hs.2 b (Nat.ne_of_lt (Nat.lt_of_lt_of_le (Heap.lt_size e) (I.ok.cab x c hfn hc)))).trans (I.base.keep b o e n hb hx)
    · obtain ⟨sl, e1⟩ := I.base.slot b o e n hb hx
      exact ⟨sl, (hs.2 b (Nat.ne_of_lt (Nat.lt_of_lt_of_le (Heap.lt_size e) (I.ok.cab x c hfn hc)))).trans e1⟩
    · obtain ⟨o', e1⟩ := I.base.there b o e hx
      exact ⟨o', (hs.2 b (Nat.ne_of_lt (Nat.lt_of_lt_of_le (Heap.lt_size e) (I.ok.cab x c hfn hc)))).trans e1⟩
    · by_cases hj : j = i
      · subst hj
        rw [hi] at e1; cases e1
        rw [List.getElem?_set_self hiσ] at e2
        cases e2
        exact ⟨u, r, .inr ⟨.inl hk, c, hc, hc'⟩⟩
      · rw [List.getElem?_set_ne (Ne.symm hj)] at e2
        obtain ⟨u', r', q⟩ := hl j y v' e1 e2 e3
        refine ⟨u', r', ?_⟩
        rcases q with q | ⟨k, c', e, z'⟩
        · exact .inl q
        · refine .inr ⟨k, c', e, z'.sameBut hs ?_⟩
          rintro rfl
          exact hj (nodup_ix hN e1 (I.ok.inj _ _ _ e hc ▸ hi))
    · by_cases hcc : c' = c
      · subst hcc; exact ⟨_, hc'⟩
      · obtain ⟨w2, z2⟩ := I.cell y c' e
        exact ⟨w2, z2.sameBut hs hcc⟩
    · obtain ⟨e, n, ne, nf, d⟩ := I.pin p hp
      refine ⟨(hs.2 p.1 ?_).trans e, n, ne, nf, d⟩
      intro q
      rw [q, hoc] at e
      have q' : oc = p.2 := Option.some.inj e
      exact d w' (by rw [← q']; exact hocd)
theorem store_ok {M : Model} {A : Around} {E : Value → Shared → Prop} {i : Nat} {x : Str} {v : V} {u : Value} {Q : Unit → Shared → Prop} (I : Inv X pins σ H s) (hN : X.N.Nodup) (hi : X.N[i]? = some x) (hx : Loc X.env.scope x) (r : RelV v u)
    (h : ∀ s', Inv X pins (σ.set i (some v)) H s' → Q () s') (hf : X.fn x = true ∨ X.env.scope.names.lookup x = some .local := by first | exact .inl rfl | exact .inr rfl | assumption) : wpAny M A (storeName X.env x u) Q E s :=
  store_ok2 I hN hi hx r (fun s' I' _ => h s' I') hf
/-- behind a call or a block, the state as it is -/
theorem Inv.call' {s' : Shared} {ch : List Addr} (I : Inv X pins σ H s) (ho : s'.os = s.os) (u : Un (frs X.stack) ch H H' s.heap s'.heap) (hok : HOk X.prog X.w H' s'.heap) (hg : AllBare s'.gens)
    (hch : ∀ b ∈ ch, (b ∈ X.ex ∨ X.s₀.heap.objs.size ≤ b) ∧ b ≠ X.env.locals ∧ (∀ x c, X.env.cells.lookup x = some c → c ≠ b) ∧ ∀ p ∈ X.pn ++ pins, p.1 ≠ b) : Inv X pins σ H' s' := by
  obtain ⟨h', g', d', t', o'⟩ := s'
  have e : o' = s.os := ho
  subst e
  exact I.call (g' := g') (t' := t') (d' := d') u hok hg hch
end

/-! ### the judgements -/
/-- an exception: its class, its own dict's address (where it has one), the abstract heap behind it -/
noncomputable abbrev XK := Value → Option Addr → Hp → Prop
noncomputable abbrev St := List (Option V)
noncomputable abbrev VK := V → Hp → Prop
/-- an expression's reading; a test's; an argument list's -/
noncomputable abbrev TE := St → Hp → VK → Prop
noncomputable abbrev TT := St → Hp → (Bool → Hp → Prop) → Prop
noncomputable abbrev TA := St → Hp → (List V → Hp → Prop) → Prop
/-- what is wanted behind a statement -/
structure Ends where
  nx : St → Hp → Prop
  rt : VK
  bk : St → Hp → Prop := fun _ _ => False
  ct : St → Hp → Prop := fun _ _ => False
noncomputable abbrev TS := Ends → St → Hp → Prop

noncomputable def EP (X : Cx) (pins : List (Addr × Obj)) (σ : St) (Q : VK) (u : Value) (s' : Shared) : Prop := ∃ v H', Inv X pins σ H' s' ∧ RelV v u ∧ Q v H'
noncomputable def TP (X : Cx) (pins : List (Addr × Obj)) (σ : St) (Q : Bool → Hp → Prop) (b : Bool) (s' : Shared) : Prop := ∃ H', Inv X pins σ H' s' ∧ Q b H'
noncomputable def AP (X : Cx) (pins : List (Addr × Obj)) (σ : St) (Q : List V → Hp → Prop) (us : List Value) (s' : Shared) : Prop := ∃ vs H', Inv X pins σ H' s' ∧ Vals vs us ∧ Q vs H'
noncomputable def SP (X : Cx) (pins : List (Addr × Obj)) (D : Ends) (f : Flow) (s' : Shared) : Prop :=
  match f with
  | .next => ∃ σ' H', Inv X pins σ' H' s' ∧ D.nx σ' H'
  | .brk => ∃ σ' H', Inv X pins σ' H' s' ∧ D.bk σ' H'
  | .cont => ∃ σ' H', Inv X pins σ' H' s' ∧ D.ct σ' H'
  | .ret u => ∃ v σ' H', Inv X pins σ' H' s' ∧ RelV v u ∧ D.rt v H'

noncomputable def PE (X : Cx) (e : Expr) (t : TE) : Prop :=
  ∀ (pins : List (Addr × Obj)) (s : Shared) (σ : St) (H : Hp) (Q : VK), Inv X pins σ H s → t σ H Q → wpAny (model X.prog X.w) X.A (eval e X.env) (EP X pins σ Q) X.xe s
noncomputable def PT (X : Cx) (e : Expr) (t : TT) : Prop :=
  ∀ (pins : List (Addr × Obj)) (s : Shared) (σ : St) (H : Hp) (Q : Bool → Hp → Prop), Inv X pins σ H s → t σ H Q → wpAny (model X.prog X.w) X.A (isTrue e X.env (eval e X.env)) (TP X pins σ Q) X.xe s
/-- a test whatever its 'whole' is (and, or) -/
noncomputable def PW (X : Cx) (e : Expr) (t : TT) : Prop :=
  ∀ (whole : Sem Value) (pins : List (Addr × Obj)) (s : Shared) (σ : St) (H : Hp) (Q : Bool → Hp → Prop), Inv X pins σ H s → t σ H Q → wpAny (model X.prog X.w) X.A (isTrue e X.env whole) (TP X pins σ Q) X.xe s
theorem PW.pt {X : Cx} {e : Expr} {t : TT} (h : PW X e t) : PT X e t := h _
/-- an argument list (no star), from the left -/
noncomputable def PA (X : Cx) (es : List Expr) (t : TA) : Prop :=
  ∀ (pos : Pos) (pins : List (Addr × Obj)) (s : Shared) (σ : St) (H : Hp) (Q : List V → Hp → Prop), Inv X pins σ H s → t σ H Q → wpAny (model X.prog X.w) X.A (spliced (backTo pos (starEach es X.env))) (AP X pins σ Q) X.xe s
noncomputable def PS (X : Cx) (st : Stmt) (t : TS) : Prop :=
  ∀ (pins : List (Addr × Obj)) (s : Shared) (σ : St) (H : Hp) (D : Ends), Inv X pins σ H s → t D σ H → wpAny (model X.prog X.w) X.A (exec st X.env) (SP X pins D) X.xe s
noncomputable def PSs (X : Cx) (st : List Stmt) (t : TS) : Prop :=
  ∀ (pins : List (Addr × Obj)) (s : Shared) (σ : St) (H : Hp) (D : Ends), Inv X pins σ H s → t D σ H → wpAny (model X.prog X.w) X.A (execs st X.env) (SP X pins D) X.xe s
/-- weaken the end -/
theorem thn {α : Type} {t : Sem α} {Q Q' : α → Shared → Prop} {M : Model} {A : Around} {E : Value → Shared → Prop} {s : Shared} (h : wpAny M A t Q E s) (hQ : ∀ a s, Q a s → Q' a s) : wpAny M A t Q' E s := wpAny_mono h hQ fun _ _ x => x
end L2

namespace L2
open PySem PySem.Spec PyProof.Rows
section
variable {X : Cx}

/-- two expressions in a row -/
theorem bin {a b : Expr} {ta tb : TE} (ha : PE X a ta) (hb : PE X b tb) {pins : List (Addr × Obj)} {s : Shared} {σ : St} {H : Hp} {R : V → V → Hp → Prop} (I : Inv X pins σ H s) (h : ta σ H fun x H1 => tb σ H1 fun y H2 => R x y H2)
    {α : Type} {Q : α → Shared → Prop} {f : Value → Value → Sem α}
    (hf : ∀ v u s2 x y H2, Inv X pins σ H2 s2 → RelV x v → RelV y u → R x y H2 → wpAny (model X.prog X.w) X.A (f v u) Q X.xe s2) :
    wpAny (model X.prog X.w) X.A (eval a X.env) (fun v s₁ => wpAny (model X.prog X.w) X.A (eval b X.env) (fun u s₂ => wpAny (model X.prog X.w) X.A (f v u) Q X.xe s₂) X.xe s₁) X.xe s := by
  refine thn (ha pins s σ H _ I h) fun v s1 ⟨x, H1, I1, r1, q1⟩ => ?_
  refine thn (hb pins s1 σ H1 _ I1 q1) fun u s2 ⟨y, H2, I2, r2, q2⟩ => ?_
  exact hf v u s2 x y H2 I2 r1 r2 q2

/-! ### names and constants -/
noncomputable def tVar (i : Nat) : TE := fun σ H Q => ∃ v, σ[i]? = some (some v) ∧ Q v H
noncomputable def tC (v : V) : TE := fun _ H Q => Q v H
theorem pe_var {i : Nat} {x : Str} {pos : Pos} (hN : X.N[i]? = some x) (hv : Vis X.env.scope x) (hd : (x == ("__debug__" : Str)) = false := by decide) (hcd : (x == ("__classdict__" : Str)) = false := by decide) : PE X (.Name x pos) (tVar i) := by
  intro pins s σ H Q I h
  obtain ⟨v, e, h⟩ := h
  obtain ⟨m, hn, hl⟩ := I.loc
  obtain ⟨u, r, l⟩ := hl i x v hN e hv
  have fin : EP X pins σ Q u s := ⟨v, H, I, r, h⟩
  rcases l with ⟨hk, hm⟩ | ⟨hk, c, hc, hcell⟩
  · exact wpAny_Name (wpAny_loadName_local I.ok.kind hk hn hm fin) hd
  · rcases hk with hk | hk
    · exact wpAny_Name (wpAny_loadName_cell I.ok.kind hk hc hcell fin) hd
    · exact wpAny_Name (wpAny_loadName_free I.ok.kind hk hc hcell fin hcd) hd
theorem pe_int {i j pos} : PE X (.Constant (.int i) j pos) (tC (.int i)) := fun _ _ _ H _ I h => wpAny_Constant_int ⟨.int i, H, I.tok _, ⟨_, rfl⟩, h⟩
theorem pe_bl {b j pos} : PE X (.Constant (.bool b) j pos) (tC (.bl b)) := fun _ _ _ H _ I h => Constant_bool ⟨.bl b, H, I, rfl, h⟩
theorem pe_non {j pos} : PE X (.Constant .none j pos) (tC .non) := fun _ _ _ H _ I h => Constant_none ⟨.non, H, I, rfl, h⟩
theorem pe_str {x j pos} : PE X (.Constant (.str x) j pos) (tC (.str x)) := fun _ _ _ H _ I h => Calls.Constant_str ⟨.str x, H, I.tok _, ⟨_, rfl⟩, h⟩

/-- a global name of the def -/
noncomputable def Gl (X : Cx) (x : Str) : Prop := X.env.kindOf x = some .globalImplicit
theorem ld_glob {E : Value → Shared → Prop} {pins : List (Addr × Obj)} {s : Shared} {σ : St} {H : Hp} {x : Str} {u : Value} {pos : Pos} {Q : Value → Shared → Prop} (I : Inv X pins σ H s) (hg : Gl X x) (hm : X.mg x = some u) (h : Q u s)
    (hd : (x == ("__debug__" : Str)) = false := by decide) : wpAny (model X.prog X.w) X.A (eval (.Name x pos) X.env) Q E s :=
  Calls.Name_function_global I.ok.kind hg (Calls.loadGlobal_global (by rw [I.ok.glob]; exact I.mod.glob.keeps I.bk) hm h) hd
theorem ld_blt {E : Value → Shared → Prop} {pins : List (Addr × Obj)} {s : Shared} {σ : St} {H : Hp} {x : Str} {u : Value} {pos : Pos} {Q : Value → Shared → Prop} (I : Inv X pins σ H s) (hg : Gl X x) (hm : X.mg x = none) (hv : bootBuiltins x = some u) (h : Q u s)
    (hn : x ≠ "__name__" := by decide) (hd : (x == ("__debug__" : Str)) = false := by decide) : wpAny (model X.prog X.w) X.A (eval (.Name x pos) X.env) Q E s := by
  obtain ⟨mb, h1, h2⟩ := I.mod.blt
  exact Calls.Name_function_global I.ok.kind hg (Calls.loadGlobal_builtin (by rw [I.ok.glob]; exact I.mod.glob.keeps I.bk) hm (by rw [I.ok.blt]; exact h1.keeps I.bk) ((h2 x hn).trans hv) h) hd
/-- a module's constant, a class, a function, as a value -/
theorem pe_glob {x : Str} {v : V} {u : Value} {pos : Pos} (hg : Gl X x) (hm : X.mg x = some u) (r : RelV v u) (hd : (x == ("__debug__" : Str)) = false := by decide) : PE X (.Name x pos) (tC v) :=
  fun _ _ _ H _ I h => ld_glob I hg hm ⟨v, H, I, r, h⟩ hd
theorem pe_bltn {x : Str} {v : V} {u : Value} {pos : Pos} (hg : Gl X x) (hm : X.mg x = none) (hv : bootBuiltins x = some u) (r : RelV v u) (hn : x ≠ "__name__" := by decide) (hd : (x == ("__debug__" : Str)) = false := by decide) : PE X (.Name x pos) (tC v) :=
  fun _ _ _ H _ I h => ld_blt I hg hm hv ⟨v, H, I, r, h⟩ hn hd

/-! ### arithmetic -/
variable {a b : Expr} {ta tb : TE} {pos : Pos}
/-! ### comparisons -/
/-- a comparison as a value, as a test -/
noncomputable def tB (t : TE) : TT := fun σ H Q => t σ H fun x H1 => ∃ c, x = .bl c ∧ Q c H1
/-- an expression whose value is a bool, as a test -/
theorem pt_val {e : Expr} {t : TE} (h : PE X e t) (he : ∀ whole, isTrue e X.env whole = (do let v ← whole; standAt e.pos; holding [v] (truthy v)) := by intro _; rfl) : PT X e (tB t) := by
  intro pins s σ H Q I hw
  refine isTrue_plain (thn (h pins s σ H _ I hw) fun v s1 ⟨x, H1, I1, r1, q1⟩ => ?_) (he _)
  obtain ⟨d, rfl, q⟩ := q1
  cases r1
  exact wpAny_truthy_bool ⟨H1, I1, q⟩

/-! ### and, or, not -/
variable {tA tB' : TT} {rest : List Expr}
noncomputable def tAnd (t u : TT) : TT := fun σ H Q => t σ H fun c H1 => if c = true then u σ H1 Q else Q false H1
noncomputable def tOr (t u : TT) : TT := fun σ H Q => t σ H fun c H1 => if c = true then Q true H1 else u σ H1 Q
noncomputable def tNot (t : TT) : TT := fun σ H Q => t σ H fun c H1 => Q (!c) H1
theorem pw_and1 (ha : PT X a tA) : PW X (.BoolOp .And [a] pos) tA := by
  intro wh pins s σ H Q I h
  refine isTrue_and (thn (ha pins s σ H Q I h) fun c s1 e => ?_)
  cases c with
  | true => exact isTrue_and_nil e
  | false => exact e
theorem pw_or1 (ha : PT X a tA) : PW X (.BoolOp .Or [a] pos) tA := by
  intro wh pins s σ H Q I h
  refine isTrue_or (thn (ha pins s σ H Q I h) fun c s1 e => ?_)
  cases c with
  | false => exact isTrue_or_nil e
  | true => exact e
theorem pw_and (ha : PT X a tA) (hb : PW X (.BoolOp .And (b :: rest) pos) tB') : PW X (.BoolOp .And (a :: b :: rest) pos) (tAnd tA tB') := by
  intro wh pins s σ H Q I h
  refine isTrue_and (thn (ha pins s σ H _ I h) fun c s1 ⟨H1, I1, q1⟩ => ?_)
  cases c with
  | true => exact hb wh pins s1 σ H1 Q I1 q1
  | false => exact ⟨H1, I1, q1⟩
theorem pw_or (ha : PT X a tA) (hb : PW X (.BoolOp .Or (b :: rest) pos) tB') : PW X (.BoolOp .Or (a :: b :: rest) pos) (tOr tA tB') := by
  intro wh pins s σ H Q I h
  refine isTrue_or (thn (ha pins s σ H _ I h) fun c s1 ⟨H1, I1, q1⟩ => ?_)
  cases c with
  | true => exact ⟨H1, I1, q1⟩
  | false => exact hb wh pins s1 σ H1 Q I1 q1
theorem pt_not (ha : PT X a tA) : PT X (.UnaryOp .Not a pos) (tNot tA) := by
  intro pins s σ H Q I h
  exact isTrue_not (ha pins s σ H (fun c H1 => Q (!c) H1) I h)
/-- .. as values (bools) -/
noncomputable def tAndV (ta tb : TE) : TE := fun σ H Q => ta σ H fun x H1 => ∃ c, x = .bl c ∧ if c = true then tb σ H1 Q else Q (.bl false) H1
noncomputable def tOrV (ta tb : TE) : TE := fun σ H Q => ta σ H fun x H1 => ∃ c, x = .bl c ∧ if c = true then Q (.bl true) H1 else tb σ H1 Q
noncomputable def tNotV (ta : TE) : TE := fun σ H Q => ta σ H fun x H1 => ∃ c, x = .bl c ∧ Q (.bl (!c)) H1
theorem pe_one {op} {t : TE} (h : PE X a t) : PE X (.BoolOp op [a] pos) t := fun pins s σ H Q I hw => BoolOp_one (h pins s σ H Q I hw)
theorem pe_and (ha : PE X a ta) (hb : PE X (.BoolOp .And (b :: rest) pos) tb) : PE X (.BoolOp .And (a :: b :: rest) pos) (tAndV ta tb) := by
  intro pins s σ H Q I h
  refine BoolOp_and (thn (ha pins s σ H _ I h) fun v s1 ⟨x, H1, I1, r1, q1⟩ => ?_)
  obtain ⟨c, rfl, q1⟩ := q1
  cases r1
  refine wpAny_truthy_bool ?_
  cases c with
  | true => exact hb pins s1 σ H1 Q I1 q1
  | false => exact ⟨.bl false, H1, I1, rfl, q1⟩
theorem pe_or (ha : PE X a ta) (hb : PE X (.BoolOp .Or (b :: rest) pos) tb) : PE X (.BoolOp .Or (a :: b :: rest) pos) (tOrV ta tb) := by
  intro pins s σ H Q I h
  refine BoolOp_or (thn (ha pins s σ H _ I h) fun v s1 ⟨x, H1, I1, r1, q1⟩ => ?_)
  obtain ⟨c, rfl, q1⟩ := q1
  cases r1
  refine wpAny_truthy_bool ?_
  cases c with
  | false => exact hb pins s1 σ H1 Q I1 q1
  | true => exact ⟨.bl true, H1, I1, rfl, q1⟩
theorem pe_not (ha : PE X a ta) : PE X (.UnaryOp .Not a pos) (tNotV ta) := by
  intro pins s σ H Q I h
  refine UnaryOp_ (thn (ha pins s σ H _ I h) fun v s1 ⟨x, H1, I1, r1, q1⟩ => ?_)
  obtain ⟨c, rfl, q1⟩ := q1
  cases r1
  exact not_of (wpAny_truthy_bool ⟨.bl (!c), H1, I1, rfl, q1⟩)
/-- a if t else b -/
noncomputable def tIf (t : TT) (ta tb : TE) : TE := fun σ H Q => t σ H fun c H1 => if c = true then ta σ H1 Q else tb σ H1 Q
theorem pe_ifExp {c : Expr} (hc : PT X c tA) (ha : PE X a ta) (hb : PE X b tb) : PE X (.IfExp c a b pos) (tIf tA ta tb) := by
  intro pins s σ H Q I h
  refine wpAny_IfExp (thn (hc pins s σ H _ I h) fun d s1 ⟨H1, I1, q1⟩ => ?_)
  cases d with
  | true => exact ha pins s1 σ H1 Q I1 q1
  | false => exact hb pins s1 σ H1 Q I1 q1
end
end L2

namespace L2
open PySem PySem.Spec PyProof.Rows

/-! ### a list, a tuple that is read: tracked, frozen, or an object of the module -/
noncomputable def SqL (K : PySem.W.Frag) (H : Hp) (a : Addr) (xs : List V) : Prop :=
  Rd H a (.lst xs) ∨
    ∃ (o : Obj) (its : Array Value) (n : Nat), K.lookup a = some o ∧ o.cls = .type "list" ∧ o.dict = none ∧ o.data = .seq its n ∧ its.size ≤ sizeLine ∧ Vals xs its.toList
noncomputable def SqT (K : PySem.W.Frag) (H : Hp) (a : Addr) (xs : List V) : Prop :=
  Rd H a (.tup xs) ∨
    ∃ (o : Obj) (its : Array Value) (n : Nat), K.lookup a = some o ∧ o.cls = .type "tuple" ∧ o.data = .seq its n ∧ its.size ≤ sizeLine ∧ Vals xs its.toList
noncomputable def absV : Value → Option V
  | .none => some .non
  | .bool b => some (.bl b)
  | .int i _ => some (.int i)
  | .str x _ => some (.str x)
  | .bytes b _ => some (.byt b)
  | .float b _ => some (.flt b)
  | .ref a => some (.ref a)
  | .type n => some (.ty n)
  | _ => none
theorem RelV.abs {x : V} {u : Value} (r : RelV x u) : absV u = some x := by
  cases x with
  | non => cases r; rfl
  | bl _ => cases r; rfl
  | int _ => obtain ⟨t, rfl⟩ := r; rfl
  | str _ => obtain ⟨t, rfl⟩ := r; rfl
  | byt _ => obtain ⟨t, rfl⟩ := r; rfl
  | flt _ => obtain ⟨t, rfl⟩ := r; rfl
  | ref _ => cases r; rfl
  | ty _ => cases r; rfl
theorem RelV.inj {x y : V} {u : Value} (r : RelV x u) (q : RelV y u) : x = y := Option.some.inj (r.abs.symm.trans q.abs)
theorem Vals.inj : ∀ {xs ys : List V} {us : List Value}, Vals xs us → Vals ys us → xs = ys
  | _, _, _, .nil, .nil => rfl
  | _, _, _, .cons r t, .cons r' t' => by rw [r.inj r', Vals.inj t t']
section
variable {X : Cx} {pins : List (Addr × Obj)} {σ : St} {H : Hp} {s : Shared} {a : Addr} {xs ys : List V}
theorem SqL.of {K : PySem.W.Frag} (h : H a = some (.lst xs)) : SqL K H a xs := .inl (.inl h)
theorem SqT.of {K : PySem.W.Frag} (h : H a = some (.tup xs)) : SqT K H a xs := .inl (.inl h)
theorem Inv.list (I : Inv X pins σ H s) (h : SqL X.K H a xs) : ∃ its : List Value, Vals xs its ∧ PlainL s.heap a its.toArray ∧ xs.length ≤ sizeLine := by
  rcases h with h | ⟨o, its, n, hk, hc, hd, hs, hz, r⟩
  · obtain ⟨z, its, n, r, e⟩ := h.ok I.hok
    exact ⟨its, r, ⟨_, n, e, rfl, rfl, rfl⟩, z⟩
  · refine ⟨its.toList, r, ⟨o, n, I.kIn a o hk, hc, hd, by simpa using hs⟩, ?_⟩
    have e := r.length
    simp only [Array.length_toList] at e
    omega
theorem Inv.tuple (I : Inv X pins σ H s) (h : SqT X.K H a xs) : ∃ its : List Value, Vals xs its ∧ IsTup s.heap a its.toArray ∧ xs.length ≤ sizeLine := by
  rcases h with h | ⟨o, its, n, hk, hc, hs, hz, r⟩
  · obtain ⟨z, its, r, p⟩ := h.ok I.hok
    exact ⟨its, r, p, z⟩
  · refine ⟨its.toList, r, ⟨o, I.kIn a o hk, hc, n, by simpa using hs⟩, ?_⟩
    have e := r.length
    simp only [Array.length_toList] at e
    omega
theorem Inv.list_inj (I : Inv X pins σ H s) (h : SqL X.K H a xs) (h' : SqL X.K H a ys) : xs = ys := by
  obtain ⟨its, r, ⟨o, n, e, _, _, d⟩, _⟩ := I.list h
  obtain ⟨its', r', ⟨o', n', e', _, _, d'⟩, _⟩ := I.list h'
  rw [e] at e'; cases e'
  rw [d] at d'
  injection d' with d1 _
  have : its = its' := by simpa using congrArg Array.toList d1
  subst this
  exact r.inj r'
theorem Inv.tuple_inj (I : Inv X pins σ H s) (h : SqT X.K H a xs) (h' : SqT X.K H a ys) : xs = ys := by
  obtain ⟨its, r, ⟨o, e, _, n, d⟩, _⟩ := I.tuple h
  obtain ⟨its', r', ⟨o', e', _, n', d'⟩, _⟩ := I.tuple h'
  rw [e] at e'; cases e'
  rw [d] at d'
  injection d' with d1 _
  have : its = its' := by simpa using congrArg Array.toList d1
  subst this
  exact r.inj r'
end

/-! ### another wish about exceptions -/
noncomputable abbrev Cx.wish (X : Cx) (E : Value → Shared → Prop) : Cx := { X with xe := E }
/-- no exception leaves -/
noncomputable abbrev Cx.nox (X : Cx) : Cx := X.wish fun _ _ => False
theorem Cx.Ok.wish {X : Cx} (ok : X.Ok) (E : Value → Shared → Prop) : (X.wish E).Ok :=
  ⟨ok.mod, ok.kind, ok.glob, ok.blt, ok.above, ok.inj, ok.has, ok.cab, ok.hd, ok.frames, ok.stk, ok.exf, ok.bs, ok.bsz, ok.noex, ok.exfs, ok.funs, ok.frf⟩
theorem Cx.Ok.unwish {X : Cx} {E : Value → Shared → Prop} (ok : (X.wish E).Ok) : X.Ok :=
  ⟨ok.mod, ok.kind, ok.glob, ok.blt, ok.above, ok.inj, ok.has, ok.cab, ok.hd, ok.frames, ok.stk, ok.exf, ok.bs, ok.bsz, ok.noex, ok.exfs, ok.funs, ok.frf⟩
section
variable {X : Cx} {pins : List (Addr × Obj)} {σ : St} {H : Hp} {s : Shared} {E : Value → Shared → Prop}
theorem Inv.wish (I : Inv X pins σ H s) (E : Value → Shared → Prop) : Inv (X.wish E) pins σ H s := ⟨I.ok.wish E, I.os, I.bare, I.base, I.loc, I.cell, I.free, I.freeC, I.pin, I.hok, I.len⟩
theorem Inv.unwish (I : Inv (X.wish E) pins σ H s) : Inv X pins σ H s := ⟨I.ok.unwish, I.os, I.bare, I.base, I.loc, I.cell, I.free, I.freeC, I.pin, I.hok, I.len⟩
theorem SP.unwish {D : Ends} {f : Flow} {s' : Shared} (h : SP (X.wish E) pins D f s') : SP X pins D f s' := by
  cases f with
  | next => obtain ⟨σ', H', I, q⟩ := h; exact ⟨σ', H', I.unwish, q⟩
  | brk => obtain ⟨σ', H', I, q⟩ := h; exact ⟨σ', H', I.unwish, q⟩
  | cont => obtain ⟨σ', H', I, q⟩ := h; exact ⟨σ', H', I.unwish, q⟩
  | ret u => obtain ⟨v, σ', H', I, r, q⟩ := h; exact ⟨v, σ', H', I.unwish, r, q⟩
theorem PSs.nox {st : List Stmt} {t : TS} (h : PSs X.nox st t) : PSs X st t := fun pins s σ H D I hw =>
  wpAny_mono (h pins s σ H D (I.wish _) hw) (fun _ _ q => q.unwish) fun _ _ z => False.elim z
end

/-! ### blocks and small statements -/
section
variable {X : Cx} {st : Stmt} {rest : List Stmt} {t u : TS} {e : Expr} {te : TE} {pos : Pos}
noncomputable def tNext : TS := fun D σ H => D.nx σ H
noncomputable def tSeq (t u : TS) : TS := fun D σ H => t { D with nx := u D } σ H
theorem pss_nil : PSs X [] tNext := fun _ _ σ H _ I h => wpAny_execs_nil ⟨σ, H, I, h⟩
theorem pss_cons (h1 : PS X st t) (h2 : PSs X rest u) : PSs X (st :: rest) (tSeq t u) := by
  intro pins s σ H D I h
  refine wpAny_execs_cons (thn (h1 pins s σ H { D with nx := u D } I h) fun f s1 q => ?_)
  cases f with
  | next =>
    obtain ⟨σ', H', I', q⟩ := q
    exact h2 pins s1 σ' H' D I' q
  | ret v => exact q
  | brk => exact q
  | cont => exact q
theorem pss_one (h1 : PS X st t) : PSs X [st] t := by
  intro pins s σ H D I h
  refine wpAny_execs_cons (thn (h1 pins s σ H D I h) fun f s1 q => ?_)
  cases f with
  | next => exact wpAny_execs_nil q
  | ret v => exact q
  | brk => exact q
  | cont => exact q
/-- in a def's body nothing is shown -/
theorem Inv.quiet {pins : List (Addr × Obj)} {σ : St} {H : Hp} {s : Shared} (I : Inv X pins σ H s) : interactive X.env = false := by simp [interactive, I.ok.kind]
/-- an expression whose value is dropped -/
noncomputable def tDrop (te : TE) : TS := fun D σ H => te σ H fun _ H1 => D.nx σ H1
theorem ps_expr (he : PE X e te) (hs : swapsWith e none pos.line X.env = pure false := by rfl) : PS X (.Expr e pos) (tDrop te) := by
  intro pins s σ H D I h
  exact wpAny_Expr_any (thn (he pins s σ H _ I h) fun v s1 ⟨x, H1, I1, r1, q1⟩ => ⟨σ, H1, I1, q1⟩) I.quiet hs
noncomputable def tRet (te : TE) : TS := fun D σ H => te σ H D.rt
theorem ps_ret (he : PE X e te) : PS X (.Return (some e) pos) (tRet te) := by
  intro pins s σ H D I h
  exact wpAny_Return_some (thn (he pins s σ H _ I h) fun v s1 ⟨x, H1, I1, r1, q1⟩ => ⟨x, σ, H1, I1, r1, q1⟩)
noncomputable def tIfS (c : TT) (t u : TS) : TS := fun D σ H => c σ H fun b H1 => if b = true then t D σ H1 else u D σ H1
theorem ps_if {c : Expr} {a b : List Stmt} {tc : TT} (hc : PT X c tc) (ha : PSs X a t) (hb : PSs X b u) : PS X (.If c a b pos) (tIfS tc t u) := by
  intro pins s σ H D I h
  refine wpAny_If (thn (hc pins s σ H _ I h) fun d s1 ⟨H1, I1, q1⟩ => ?_)
  cases d with
  | true => exact ha pins s1 σ H1 D I1 q1
  | false => exact hb pins s1 σ H1 D I1 q1
end

/-! ### targets -/
noncomputable abbrev TG := V → St → Hp → (St → Hp → Prop) → Prop
noncomputable abbrev TGs := List V → St → Hp → (St → Hp → Prop) → Prop
noncomputable def PG (X : Cx) (target : Expr) (t : TG) : Prop :=
  ∀ (pins : List (Addr × Obj)) (s : Shared) (σ : St) (H : Hp) (v : V) (u : Value) (Q : St → Hp → Prop), Inv X pins σ H s → RelV v u → t v σ H Q →
    wpAny (model X.prog X.w) X.A (assign target X.env u) (fun _ s' => ∃ σ' H', Inv X pins σ' H' s' ∧ Q σ' H') X.xe s
/-- several targets, one after another -/
noncomputable def PGs (X : Cx) (ts : List Expr) (t : TGs) : Prop :=
  ∀ (pins : List (Addr × Obj)) (s : Shared) (σ : St) (H : Hp) (vs : List V) (us : List Value) (Q : St → Hp → Prop), Inv X pins σ H s → Vals vs us → t vs σ H Q →
    wpAny (model X.prog X.w) X.A (assignInOrder ((assignEach ts X.env).map (·.2)) us) (fun _ s' => ∃ σ' H', Inv X pins σ' H' s' ∧ Q σ' H') X.xe s
/-- o[i] = v, by values -/
noncomputable abbrev TSet := V → V → V → Hp → (Hp → Prop) → Prop
noncomputable def PSet (X : Cx) (t : TSet) : Prop :=
  ∀ (pins : List (Addr × Obj)) (s : Shared) (σ : St) (H : Hp) (o i v : V) (ov iv u : Value) (Q : Hp → Prop), Inv X pins σ H s → RelV o ov → RelV i iv → RelV v u → t o i v H Q →
    wpAny (model X.prog X.w) X.A (setItem ov iv u) (fun _ s' => ∃ H', Inv X pins σ H' s' ∧ Q H') X.xe s
section
variable {X : Cx} {pos : Pos}
noncomputable def gName (i : Nat) : TG := fun v σ H Q => Q (σ.set i (some v)) H
theorem pg_name {i : Nat} {x : Str} (hN : X.N.Nodup) (hi : X.N[i]? = some x) (hx : Loc X.env.scope x) (hf : X.fn x = true ∨ X.env.scope.names.lookup x = some .local := by first | exact .inl rfl | exact .inr rfl | assumption) : PG X (.Name x pos) (gName i) := by
  intro pins s σ H v u Q I r h
  exact wpAny_assign_Name (store_ok I hN hi hx r (fun s' I' => ⟨_, H, I', h⟩) hf)
noncomputable def gNil : TGs := fun vs σ H Q => vs = [] ∧ Q σ H
noncomputable def gCons (t : TG) (u : TGs) : TGs := fun vs σ H Q => ∃ v r, vs = v :: r ∧ t v σ H fun σ' H' => u r σ' H' Q
theorem pgs_nil : PGs X [] gNil := by
  intro pins s σ H vs us Q I r h
  obtain ⟨e, h⟩ := h
  subst e
  cases r
  exact assignInOrder_nil ⟨σ, H, I, h⟩
theorem pgs_cons {e : Expr} {es : List Expr} {t : TG} {u : TGs} (h1 : PG X e t) (h2 : PGs X es u)
    (hs : (assignEach (e :: es) X.env).map (·.2) = assign e X.env :: (assignEach es X.env).map (·.2) := by rfl) : PGs X (e :: es) (gCons t u) := by
  intro pins s σ H vs us Q I r h
  obtain ⟨v, vr, e1, h⟩ := h
  subst e1
  cases r with
  | cons r rr =>
    rw [hs]
    refine assignInOrder_cons (thn (h1 pins s σ H _ _ _ I r h) fun _ s1 ⟨σ1, H1, I1, q1⟩ => ?_)
    exact h2 pins s1 σ1 H1 _ _ Q I1 rr q1
/-- (a, b, ..) = a tuple of that length -/
noncomputable def gTup (K : PySem.W.Frag) (n : Nat) (t : TGs) : TG := fun v σ H Q => ∃ a xs, v = .ref a ∧ SqT K H a xs ∧ xs.length = n ∧ t xs σ H Q
theorem pg_tup {es : List Expr} {k : Nat} {t : TGs} {n : Nat} (hc : X.calm = true) (h : PGs X es t)
    (hn : (assignEach es X.env).length = n := by rfl) (hst : (assignEach es X.env).findIdx? (·.1) = none := by rfl) : PG X (.Tuple es k pos) (gTup X.K n t) := by
  intro pins s σ H v u Q I r hw
  obtain ⟨a, xs, e1, hq, hl, hw⟩ := hw
  subst e1
  cases r
  obtain ⟨its, rv, ht, hz⟩ := I.tuple hq
  refine assign_Tuple_tuple (I.ok.hd hc) ht (by simp [hn, ← hl, rv.length]) hst fun h' hx => ?_
  have I1 : Inv X pins σ H { s with heap := h' } := I.kept (t' := s.toks) fun b o e => hx b o (Nat.ne_of_lt (Heap.lt_size e)) e
  exact h pins _ σ H xs _ Q I1 (by simpa using rv) hw
/-- o[i] = .. -/
noncomputable def gSub (to ti : TE) (t : TSet) : TG := fun v σ H Q => to σ H fun o H1 => ti σ H1 fun i H2 => t o i v H2 fun H3 => Q σ H3
theorem pg_sub {o i : Expr} {to ti : TE} {t : TSet} (ho : PE X o to) (hi : PE X i ti) (hs : PSet X t)
    (ha : ∀ v, assign (.Subscript o i pos) X.env v = (do
      let ov ← holding [v] (eval o X.env)
      let iv ← holding [v, ov] (eval i X.env)
      standAt pos
      holding [v, ov, iv] (setItem ov iv v)
      release [v, ov, iv] []) := by intro _; rfl) : PG X (.Subscript o i pos) (gSub to ti t) := by
  intro pins s σ H v u Q I r h
  rw [ha]
  refine wpAny_bind (wpAny_holding (thn (ho pins s σ H _ I h) fun ov s1 ⟨x, H1, I1, r1, q1⟩ => ?_))
  refine wpAny_bind (wpAny_holding (thn (hi pins s1 σ H1 _ I1 q1) fun iv s2 ⟨y, H2, I2, r2, q2⟩ => ?_))
  refine wpAny_bind (wpAny_standAt (wpAny_bind (wpAny_holding (thn (hs pins s2 σ H2 x y v ov iv u _ I2 r1 r2 r q2) fun _ s3 ⟨H3, I3, q3⟩ => ?_))))
  exact wpAny_release ⟨σ, H3, I3, q3⟩
/-- target = value -/
noncomputable def tAsg (te : TE) (g : TG) : TS := fun D σ H => te σ H fun x H1 => g x σ H1 D.nx
theorem ps_asg {tg e : Expr} {te : TE} {g : TG} (he : PE X e te) (hg : PG X tg g) (hs : swapsWithSole [tg] e pos.line X.env = pure false := by rfl) (hw : swappedStores [tg] e X.env = pure none := by rfl)
    (h1 : (assignEach [tg] X.env).map (·.2) = [assign tg X.env] := by rfl) : PS X (.Assign [tg] e pos) (tAsg te g) := by
  intro pins s σ H D I h
  refine wpAny_Assign_stores (thn (he pins s σ H _ I h) fun v s1 ⟨x, H1, I1, r1, q1⟩ => ?_) hs hw
  rw [h1]
  exact thn (hg pins s1 σ H1 x v _ I1 r1 q1) fun _ s2 q => q
/-- name = value -/
theorem ps_set {i : Nat} {x : Str} {e : Expr} {te : TE} {pos' : Pos} (hN : X.N.Nodup) (hi : X.N[i]? = some x) (hx : Loc X.env.scope x) (he : PE X e te) (hs : swapsWith e (some (.Name x pos')) pos.line X.env = pure false := by rfl) (hf : X.fn x = true ∨ X.env.scope.names.lookup x = some .local := by first | exact .inl rfl | exact .inr rfl | assumption) :
    PS X (.Assign [.Name x pos'] e pos) (tAsg te (gName i)) := by
  intro pins s σ H D I h
  refine wpAny_Assign_Name (thn (he pins s σ H _ I h) fun v s1 ⟨y, H1, I1, r1, q1⟩ => ?_) hs
  exact store_ok I1 hN hi hx r1 (fun s2 I2 => ⟨_, H1, I2, q1⟩) hf
end

/-! ### while -/
section
variable {X : Cx} {pos : Pos}
end

/-! ### what a loop or a comprehension walks -/
/-- at turn i: it yields x (the heap may grow), or it stops -/
structure It where
  go : Nat → Hp → Prop
  yld : Nat → Hp → V → Hp → Prop
  stop : Nat → Hp → Prop
/-- the iterator's own objects may turn: they are not the frame's, not pinned, younger than the entry (or a comprehension's own) -/
noncomputable def FpOk (X : Cx) (pins : List (Addr × Obj)) (H : Hp) (b : Addr) : Prop :=
  H b = none ∧ b ≠ X.env.locals ∧ b ∉ X.fs ∧ (b ∈ X.ex ∨ X.s₀.heap.objs.size ≤ b) ∧ (∀ x c, X.env.cells.lookup x = some c → c ≠ b) ∧ ∀ p ∈ X.pn ++ pins, p.1 ≠ b
theorem Inv.fpOk {X : Cx} {pins : List (Addr × Obj)} {σ : St} {H H' : Hp} {s : Shared} {b : Addr} (I : Inv X pins σ H s) (hb : s.heap.objs.size ≤ b) (hn : H' b = none) : FpOk X pins H' b := by
  refine ⟨hn, Nat.ne_of_gt (Nat.lt_of_lt_of_le I.lt hb), I.nofs hb, .inr (Nat.le_trans I.sz hb), fun x c e z => ?_, fun p hp z => ?_⟩
  · obtain ⟨v, q⟩ := I.cell x c e
    exact absurd (Nat.lt_of_lt_of_le q.lt (by rw [z]; exact hb)) (Nat.lt_irrefl _)
  · exact absurd (Nat.lt_of_lt_of_le (Heap.lt_size (I.pin p hp).1) (by rw [z]; exact hb)) (Nat.lt_irrefl _)
structure Turn (P : Program) (w : World) (K : PySem.W.Frag) (tg : Expr) (J : It) (fp : List Addr) (it : Addr) (tn : Nat → Heap → Prop) : Prop where
  mem : it ∈ fp
  obj : ∀ i h, tn i h → ∀ b ∈ fp, ∃ o, h.get? b = some o ∧ ∀ v, o.data ≠ .cell v
  keep : ∀ i h h', tn i h → (∀ b ∈ fp, ∀ o, h.get? b = some o → h'.get? b = some o) → tn i h'
  item : ∀ (X : Cx), X.prog = P → X.w = w → X.K = K → X.calm = true → ∀ (i : Nat) (pins : List (Addr × Obj)) (s : Shared) (σ : St) (H : Hp) (E : Value → Shared → Prop), Inv X pins σ H s → (∀ b ∈ fp, FpOk X pins H b) → tn i s.heap → J.go i H →
    wpAny (model P w) X.A (pyNext (.ref it)) (fun r s1 => ∃ u, r = some u ∧
      wpAny (model P w) X.A (letOwnedTupleGo tg (.ref it) u) (fun _ s2 => ∃ x H', Inv X pins σ H' s2 ∧ RelV x u ∧ J.yld i H x H' ∧ tn (i + 1) s2.heap ∧ ∀ b ∈ fp, H' b = none) E s1) E s
  done : ∀ (X : Cx), X.prog = P → X.w = w → X.K = K → X.calm = true → ∀ (i : Nat) (pins : List (Addr × Obj)) (s : Shared) (σ : St) (H : Hp) (E : Value → Shared → Prop), Inv X pins σ H s → (∀ b ∈ fp, FpOk X pins H b) → tn i s.heap → J.stop i H →
    wpAny (model P w) X.A (pyNext (.ref it)) (fun r s1 => r = none ∧ Inv X pins σ H s1) E s
  self : ∀ (A : Around) (i : Nat) (s : Shared) (Q : Value → Shared → Prop) (E : Value → Shared → Prop), tn i s.heap → Q (.ref it) s → wpAny (model P w) A (pyIter (.ref it)) Q E s
noncomputable abbrev TI := St → Hp → (It → Hp → Prop) → Prop
/-- an iterator has come -/
noncomputable def PIE (X : Cx) (pins : List (Addr × Obj)) (σ : St) (tg : Expr) (R : It → Hp → Prop) (itv : Value) (s2 : Shared) : Prop :=
  ∃ (it : Addr) (fp : List Addr) (tn : Nat → Heap → Prop) (J : It) (H' : Hp), itv = .ref it ∧ Inv X pins σ H' s2 ∧ Turn X.prog X.w X.K tg J fp it tn ∧ tn 0 s2.heap ∧ (∀ b ∈ fp, FpOk X pins H' b) ∧ R J H'
noncomputable def PI (X : Cx) (tg iter : Expr) (wi : TI) : Prop :=
  ∀ (pins : List (Addr × Obj)) (s : Shared) (σ : St) (H : Hp) (R : It → Hp → Prop), Inv X pins σ H s → wi σ H R →
    wpAny (model X.prog X.w) X.A (eval iter X.env) (fun v s1 => wpAny (model X.prog X.w) X.A (pyIter v) (PIE X pins σ tg R) X.xe s1) X.xe s

/-- the step ahead of the store is nothing for an iterator that keeps no tuple -/
theorem go_of {M : Model} {A : Around} {E : Value → Shared → Prop} {s : Shared} {tg : Expr} {it : Addr} {u : Value} {o : Obj} {n : String} {vs : Array Value} {Q : Unit → Shared → Prop} (ho : s.heap.get? it = some o) (hc : o.cls = .type n) (hd : o.data = .fields vs)
    (hn : ["enumerate", "zip", "dict_itemiterator", "dict_reverseitemiterator", "odict_iterator", "itertools.zip_longest", "itertools.pairwise"].contains n = false) (hQ : Q () s) : wpAny M A (letOwnedTupleGo tg (.ref it) u) Q E s := by
  unfold letOwnedTupleGo
  cases tg <;> first
    | exact wpAny_pure hQ
    | (cases u <;> first
        | exact wpAny_pure hQ
        | (refine wpAny_bind (wpAny_load ho ?_)
           rw [hc, hd]
           show wpAny M A (if (["enumerate", "zip", "dict_itemiterator", "dict_reverseitemiterator", "odict_iterator", "itertools.zip_longest", "itertools.pairwise"].contains n && vs[0]? == some (rawInt _)) = true then _ else _) Q E s
           rw [if_neg (by intro h; rw [hn, Bool.false_and] at h; cases h)]
           exact wpAny_pure hQ))

/-- the list at a, as it stands at each turn (a loop may append to it) -/
noncomputable def Itl (K : PySem.W.Frag) (a : Addr) : It :=
  ⟨fun i H => ∃ xs x, SqL K H a xs ∧ xs[i]? = some x, fun i H x H' => H' = H ∧ ∀ xs, SqL K H a xs → xs[i]? = some x, fun i H => ∃ xs, SqL K H a xs ∧ xs.length ≤ i⟩
noncomputable def Itt (K : PySem.W.Frag) (a : Addr) : It :=
  ⟨fun i H => ∃ xs x, SqT K H a xs ∧ xs[i]? = some x, fun i H x H' => H' = H ∧ ∀ xs, SqT K H a xs → xs[i]? = some x, fun i H => ∃ xs, SqT K H a xs ∧ xs.length ≤ i⟩
/-- lo, lo + 1, .. (n of them) -/
noncomputable def Itr (lo : Int) (n : Nat) : It := ⟨fun i _ => i < n, fun i H x H' => H' = H ∧ x = .int (lo + i), fun i _ => n ≤ i⟩
theorem turn_list {P : Program} {w : World} {K : PySem.W.Frag} {tg : Expr} (a it : Addr) : Turn P w K tg (Itl K a) [it] it (fun i h => h.IsListIter it a i) where
  mem := by simp
  obj := fun i h st b hb => by
    have e : b = it := by simpa using hb
    subst e
    obtain ⟨o, e, c, d⟩ := st
    exact ⟨o, e, fun v z => by rw [d] at z; cases z⟩
  keep := fun i h h' st k => st.at fun o e => k it (by simp) o e
  item := by
    intro X hP hw hK hc i pins s σ H E I hf st hg
    subst hP hw hK
    obtain ⟨xs, x, hq, hx⟩ := hg
    obtain ⟨its, rv, p, hz⟩ := I.list hq
    obtain ⟨u, hu, ru⟩ := rv.get hx
    obtain ⟨f0, f1, f2, f3, f4, f5⟩ := hf it (by simp)
    refine wpAny_pyNext_list_item st p.isList (x := u) (by simpa using hu) fun h' st' sb => ?_
    have I1 : Inv X pins σ H { s with heap := h' } := I.turned (t' := s.toks) (fun b o hb e => (sb.2 b hb).trans e) f0 f1 f3 f4 f5
    obtain ⟨o, e, c, d⟩ := id st'
    exact ⟨u, rfl, go_of (s := { s with heap := h' }) e c d (by decide) ⟨x, H, I1, ru, ⟨rfl, fun ys hy => by rw [I.list_inj hy hq]; exact hx⟩, st', fun b hb => (hf b hb).1⟩⟩
  done := by
    intro X hP hw hK hc i pins s σ H E I hf st hg
    subst hP hw hK
    obtain ⟨xs, hq, hx⟩ := hg
    obtain ⟨its, rv, p, hz⟩ := I.list hq
    obtain ⟨f0, f1, f2, f3, f4, f5⟩ := hf it (by simp)
    have hl := rv.length
    exact wpAny_pyNext_list_end (I.ok.hd hc) st p.isList (by simp; omega) fun h' eb => ⟨rfl, I.turned (t' := s.toks) (fun b o hb e => eb b o hb e) f0 f1 f3 f4 f5⟩
  self := fun _ _ _ _ _ st h => wpAny_pyIter_listiter st h
theorem turn_tuple {P : Program} {w : World} {K : PySem.W.Frag} {tg : Expr} (a it : Addr) : Turn P w K tg (Itt K a) [it] it (fun i h => h.IsTupleIter it a i) where
  mem := by simp
  obj := fun i h st b hb => by
    have e : b = it := by simpa using hb
    subst e
    obtain ⟨o, e, c, d⟩ := st
    exact ⟨o, e, fun v z => by rw [d] at z; cases z⟩
  keep := fun i h h' st k => st.at fun o e => k it (by simp) o e
  item := by
    intro X hP hw hK hc i pins s σ H E I hf st hg
    subst hP hw hK
    obtain ⟨xs, x, hq, hx⟩ := hg
    obtain ⟨its, rv, p, hz⟩ := I.tuple hq
    obtain ⟨u, hu, ru⟩ := rv.get hx
    obtain ⟨f0, f1, f2, f3, f4, f5⟩ := hf it (by simp)
    refine wpAny_pyNext_tuple_item st (show s.heap.IsTuple a its.toArray from p) (x := u) (by simpa using hu) fun h' st' sb => ?_
    have I1 : Inv X pins σ H { s with heap := h' } := I.turned (t' := s.toks) (fun b o hb e => (sb.2 b hb).trans e) f0 f1 f3 f4 f5
    obtain ⟨o, e, c, d⟩ := id st'
    exact ⟨u, rfl, go_of (s := { s with heap := h' }) e c d (by decide) ⟨x, H, I1, ru, ⟨rfl, fun ys hy => by rw [I.tuple_inj hy hq]; exact hx⟩, st', fun b hb => (hf b hb).1⟩⟩
  done := by
    intro X hP hw hK hc i pins s σ H E I hf st hg
    subst hP hw hK
    obtain ⟨xs, hq, hx⟩ := hg
    obtain ⟨its, rv, p, hz⟩ := I.tuple hq
    obtain ⟨f0, f1, f2, f3, f4, f5⟩ := hf it (by simp)
    have hl := rv.length
    exact wpAny_pyNext_tuple_end (I.ok.hd hc) st (show s.heap.IsTuple a its.toArray from p) (by simp; omega) fun h' eb => ⟨rfl, I.turned (t' := s.toks) (fun b o hb e => eb b o hb e) f0 f1 f3 f4 f5⟩
  self := fun _ _ _ _ _ st h => wpAny_pyIter_tupleiter st h
theorem turn_range {P : Program} {w : World} {K : PySem.W.Frag} {tg : Expr} (it : Addr) (lo : Int) (n : Nat) : Turn P w K tg (Itr lo n) [it] it (fun i h => IsRangeIter h it (lo + (i : Nat) * 1) ((n : Int) - (i : Nat)) 1) where
  mem := by simp
  obj := fun i h st b hb => by
    have e : b = it := by simpa using hb
    subst e
    exact ⟨_, st, fun v z => by
      have z' : Data.fields _ = Data.cell v := z
      cases z'⟩
  keep := fun i h h' st k => k it (by simp) _ st
  item := by
    intro X hP hw hK hc i pins s σ H E I hf st hg
    subst hP hw hK
    obtain ⟨f0, f1, f2, f3, f4, f5⟩ := hf it (by simp)
    have W := Walks.range (prog := X.prog) (w := X.w) (I.ok.hd hc) it lo 1 n
    refine W.item i s _ _ hg st fun v h' tk hv st' kk => ?_
    obtain ⟨t, rfl⟩ := hv
    have I1 : Inv X pins σ H { s with heap := h', toks := tk } := I.turned (fun b o hb e => kk b o (by simpa using hb) e) f0 f1 f3 f4 f5
    refine ⟨_, rfl, go_of (s := { s with heap := h', toks := tk }) (n := "range_iterator") st' rfl rfl (by decide) ⟨.int (lo + i), H, I1, ⟨t, ?_⟩, ⟨rfl, rfl⟩, st', fun b hb => (hf b hb).1⟩⟩
    rw [Int.mul_one]
  done := by
    intro X hP hw hK hc i pins s σ H E I hf st hg
    subst hP hw hK
    obtain ⟨f0, f1, f2, f3, f4, f5⟩ := hf it (by simp)
    exact wpAny_pyNext_range_end (I.ok.hd hc) st (by have : n ≤ i := hg; omega) fun h' eb => ⟨rfl, I.turned (t' := s.toks) (fun b o hb e => eb b o hb e) f0 f1 f3 f4 f5⟩
  self := fun _ _ _ _ _ st h => wpAny_pyIter_rangeiter st h
end L2

namespace L2
open PySem PySem.Spec PyProof.Rows
section
variable {X : Cx} {tg : Expr}
noncomputable def iList (K : PySem.W.Frag) (tl : TE) : TI := fun σ H R => tl σ H fun x H1 => ∃ a, x = .ref a ∧ (∃ xs, SqL K H1 a xs) ∧ R (Itl K a) H1
noncomputable def iTup (K : PySem.W.Frag) (tl : TE) : TI := fun σ H R => tl σ H fun x H1 => ∃ a, x = .ref a ∧ (∃ xs, SqT K H1 a xs) ∧ R (Itt K a) H1
theorem pi_list {l : Expr} {tl : TE} (hl : PE X l tl) : PI X tg l (iList X.K tl) := by
  intro pins s σ H R I h
  refine thn (hl pins s σ H _ I h) fun v s1 ⟨x, H1, I1, r1, q1⟩ => ?_
  obtain ⟨a, e, ⟨xs, hq⟩, q⟩ := q1
  subst e
  cases r1
  obtain ⟨its, rv, p, hz⟩ := I1.list hq
  refine wpAny_pyIter_list p.isList ?_
  refine ⟨s1.heap.objs.size, [s1.heap.objs.size], _, _, H1, rfl, I1.kept (t' := s1.toks) fun b o e => Heap.get?_push_of_some _ e, turn_list a _, ⟨_, Heap.get?_push_size _ rfl, rfl, rfl⟩, fun b hb => ?_, q⟩
  have e : b = s1.heap.objs.size := by simpa using hb
  subst e
  exact I1.fpOk (Nat.le_refl _) (I1.hok.fresh (Nat.le_refl _))
theorem pi_tup {l : Expr} {tl : TE} (hl : PE X l tl) : PI X tg l (iTup X.K tl) := by
  intro pins s σ H R I h
  refine thn (hl pins s σ H _ I h) fun v s1 ⟨x, H1, I1, r1, q1⟩ => ?_
  obtain ⟨a, e, ⟨xs, hq⟩, q⟩ := q1
  subst e
  cases r1
  obtain ⟨its, rv, p, hz⟩ := I1.tuple hq
  refine wpAny_pyIter_tuple (show s1.heap.IsTuple a its.toArray from p) ?_
  refine ⟨s1.heap.objs.size, [s1.heap.objs.size], _, _, H1, rfl, I1.kept (t' := s1.toks) fun b o e => Heap.get?_push_of_some _ e, turn_tuple a _, ⟨_, Heap.get?_push_size _ rfl, rfl, rfl⟩, fun b hb => ?_, q⟩
  have e : b = s1.heap.objs.size := by simpa using hb
  subst e
  exact I1.fpOk (Nat.le_refl _) (I1.hok.fresh (Nat.le_refl _))
/-- a range object just made, walked -/
theorem range_it {pins : List (Addr × Obj)} {σ : St} {H : Hp} {s : Shared} {R : It → Hp → Prop} {E : Value → Shared → Prop} {lo hi : Int} {t u v : Tok} {tk : Nat} (I : Inv X pins σ H s) (h1 : -(2 ^ 62) ≤ lo) (h2 : lo < 2 ^ 62) (h3 : -(2 ^ 62) ≤ hi) (h4 : hi < 2 ^ 62)
    (q : R (Itr lo (hi - lo).toNat) H) : wpAny (model X.prog X.w) X.A (pyIter (.ref s.heap.objs.size)) (PIE X pins σ tg R) E { s with heap := s.heap.push { cls := .type "range", data := .fields #[.int lo t, .int hi u, .int 1 v] }, toks := tk } := by
  refine wpAny_pyIter_range (IsRange.new ..) (small_one h1 h2 h3 h4) ?_
  have I1 : Inv X pins σ H { s with heap := s.heap.push { cls := .type "range", data := .fields #[.int lo t, .int hi u, .int 1 v] }, toks := tk } := I.kept fun b o e => Heap.get?_push_of_some _ e
  refine ⟨(s.heap.push { cls := .type "range", data := .fields #[.int lo t, .int hi u, .int 1 v] }).objs.size, [(s.heap.push { cls := .type "range", data := .fields #[.int lo t, .int hi u, .int 1 v] }).objs.size], _, _, H, rfl,
    I1.kept (t' := tk) fun b o e => Heap.get?_push_of_some _ e, turn_range _ lo (hi - lo).toNat, ?_, fun b hb => ?_, q⟩
  · have e1 : lo + ((0 : Nat) : Int) * 1 = lo := by simp
    have e2 : (((hi - lo).toNat : Nat) : Int) - ((0 : Nat) : Int) = Builtin.Range.rangeSize lo hi 1 := by rw [rangeSize_one]; split <;> omega
    show IsRangeIter _ _ (lo + ((0 : Nat) : Int) * 1) ((((hi - lo).toNat : Nat) : Int) - ((0 : Nat) : Int)) 1
    rw [e1, e2]
    exact Heap.get?_push_size _ rfl
  · have e : b = (s.heap.push { cls := .type "range", data := .fields #[.int lo t, .int hi u, .int 1 v] }).objs.size := by simpa using hb
    subst e
    exact I1.fpOk (Nat.le_refl _) (I1.hok.fresh (Nat.le_refl _))
noncomputable def iRng1 (ta : TA) : TI := fun σ H R => ta σ H fun vs H1 => ∃ j : Int, vs = [.int j] ∧ -(2 ^ 62) ≤ j ∧ j < 2 ^ 62 ∧ R (Itr 0 j.toNat) H1
theorem pi_range1 {a : Expr} {ta : TA} {p pos : Pos} (hg : Gl X "range") (hm : X.mg "range" = none) (ha : PA X [a] ta) (hs : starEach [a] X.env = [(false, eval a X.env)] := by rfl) : PI X tg (.Call (.Name "range" p) [a] [] pos) (iRng1 ta) := by
  intro pins s σ H R I h
  refine Call_ (ld_blt I hg hm boot_range (PyProof.Rows.callWith_type1 (thn (ha pos pins s σ H _ I h) fun us s1 ⟨vs, H1, I1, r1, q1⟩ => ?_) hs rfl))
  obtain ⟨j, e, q1, q2, q⟩ := q1
  subst e
  cases r1 with
  | cons r rr =>
    cases rr
    obtain ⟨t, rfl⟩ := r
    exact call_range_1 (range_it I1 (by omega) (by omega) q1 q2 (by simpa using q))
/-! ### for -/
/-- W: the invariant by the turn and a measure; N: what the body is to reach -/
noncomputable def tFor (wi : TI) (g : TG) (tb : TS) : TS := fun D σ H => wi σ H fun J H1 => ∃ W : Nat → Nat → St → Hp → Prop, (∃ m, W 0 m σ H1) ∧ ∀ i m σ H, W i m σ H →
  (J.stop i H ∧ D.nx σ H) ∨ (J.go i H ∧ ∃ N : St → Hp → Prop, (∀ σ' H', N σ' H' → ∃ m', m' < m ∧ W (i + 1) m' σ' H') ∧ ∀ x H', J.yld i H x H' → g x σ H' fun σ2 H2 => tb { D with nx := N, ct := N, bk := D.nx } σ2 H2)
/-- the records at fp as they stand -/
noncomputable def pinsAt (fp : List Addr) (h : Heap) : List (Addr × Obj) := fp.filterMap fun b => (h.get? b).map fun o => (b, o)
theorem mem_pinsAt {fp : List Addr} {h : Heap} {b : Addr} {o : Obj} (hb : b ∈ fp) (e : h.get? b = some o) : (b, o) ∈ pinsAt fp h := List.mem_filterMap.mpr ⟨b, hb, by rw [e]; rfl⟩
theorem of_pinsAt {fp : List Addr} {h : Heap} {p : Addr × Obj} (hp : p ∈ pinsAt fp h) : p.1 ∈ fp ∧ h.get? p.1 = some p.2 := by
  obtain ⟨b, hb, e⟩ := List.mem_filterMap.mp hp
  cases q : h.get? b with
  | none => rw [q] at e; cases e
  | some o =>
    rw [q] at e
    have e' : (b, o) = p := Option.some.inj e
    subst e'
    exact ⟨hb, q⟩
theorem Inv.pinned {pins : List (Addr × Obj)} {σ : St} {H : Hp} {s : Shared} {fp : List Addr} (I : Inv X pins σ H s) (hf : ∀ b ∈ fp, FpOk X pins H b) (ho : ∀ b ∈ fp, ∃ o, s.heap.get? b = some o ∧ ∀ v, o.data ≠ .cell v) : Inv X (pins ++ pinsAt fp s.heap) σ H s :=
  I.pins_of fun p hp => (List.mem_append.mp hp).elim (fun z => I.pin p (List.mem_append_right _ z)) fun z => by
    obtain ⟨hb, e⟩ := of_pinsAt z
    obtain ⟨f0, f1, f2, _⟩ := hf p.1 hb
    obtain ⟨o, e', d⟩ := ho p.1 hb
    rw [e] at e'; cases e'
    exact ⟨e, f0, f1, f2, d⟩
theorem Inv.unpinned {pins pl : List (Addr × Obj)} {σ : St} {H : Hp} {s : Shared} (I : Inv X (pins ++ pl) σ H s) : Inv X pins σ H s := I.pins_of fun p hp => I.pin p (List.mem_append_right _ (List.mem_append_left _ hp))
theorem ps_for {iter : Expr} {body : List Stmt} {wi : TI} {g : TG} {tb : TS} {pos : Pos} (hp : PassesOwn (model X.prog X.w) X.A X.env X.xe) (hc : X.calm = true) (hi : PI X tg iter wi) (hg : PG X tg g) (hb : PSs X body tb)
    (hs : ∀ x, foldedSetIterable iter X.env x = pure x := by intro _; rfl) : PS X (.For tg iter body [] pos) (tFor wi g tb) := by
  intro pins s σ H D I h
  refine wpAny_For (thn (hi pins s σ H _ I h) fun v s1 h1 => thn h1 fun itv s2 h2 => ?_) hs
  obtain ⟨it, fp, tn, J, H2, e, I2, T, st2, f2, W, ⟨m0, w0⟩, turn⟩ := h2
  subst e
  -- what stays true of the iterator's objects through the loop
  have stat : ∀ {H' : Hp}, (∀ b ∈ fp, H' b = none) → ∀ b ∈ fp, FpOk X pins H' b := fun hn b hb => ⟨hn b hb, (f2 b hb).2⟩
  refine codeAny_forLoop_any (fun n s' => ∃ i σ' H', Inv X pins σ' H' s' ∧ tn i s'.heap ∧ (∀ b ∈ fp, H' b = none) ∧ W i n σ' H') ?_ m0 ⟨0, σ, H2, I2, st2, fun b hb => (f2 b hb).1, w0⟩
  rintro n s3 ⟨i, σ3, H3, I3, st3, fr3, w3⟩
  rcases turn i n σ3 H3 w3 with ⟨stop, qn⟩ | ⟨go, N, hN, step⟩
  · refine wpAny_passesOwn hp (thn (T.done X rfl rfl rfl hc i pins s3 σ3 H3 X.xe I3 (stat fr3) st3 stop) fun r s4 ⟨hr, I4⟩ => ?_)
    subst hr
    exact wpAny_execs_nil ⟨σ3, H3, I4, qn⟩
  · refine wpAny_passesOwn hp (thn (T.item X rfl rfl rfl hc i pins s3 σ3 H3 X.xe I3 (stat fr3) st3 go) fun r s4 ⟨u, hr, h4⟩ => ?_)
    subst hr
    refine wpAny_passesOwn hp (thn h4 fun _ s5 ⟨x, H5, I5, r5, y5, st5, fr5⟩ => ?_)
    have I5' := I5.pinned (stat fr5) (T.obj _ _ st5)
    refine wpAny_passesOwn hp (thn (hg _ s5 σ3 H5 x u _ I5' r5 (step x H5 y5)) fun _ s6 ⟨σ6, H6, I6, q6⟩ => ?_)
    refine wpAny_passesOwn hp (thn (hb _ s6 σ6 H6 _ I6 q6) fun f s7 q7 => ?_)
    have again : ∀ {σ7 : St} {H7 : Hp}, Inv X (pins ++ pinsAt fp s5.heap) σ7 H7 s7 → N σ7 H7 → ∃ m, m < n ∧ ∃ i σ' H', Inv X pins σ' H' s7 ∧ tn i s7.heap ∧ (∀ b ∈ fp, H' b = none) ∧ W i m σ' H' := fun {σ7 H7} I7 n7 => by
      obtain ⟨m', hm, w7⟩ := hN σ7 H7 n7
      refine ⟨m', hm, i + 1, σ7, H7, I7.unpinned, T.keep _ _ _ st5 fun b hb o e => (I7.pin (b, o) (List.mem_append_right _ (List.mem_append_right _ (mem_pinsAt hb e)))).1, fun b hb => ?_, w7⟩
      obtain ⟨o, e, d⟩ := T.obj _ _ st5 b hb
      exact (I7.pin (b, o) (List.mem_append_right _ (List.mem_append_right _ (mem_pinsAt hb e)))).2.1
    cases f with
    | next => obtain ⟨σ7, H7, I7, n7⟩ := q7; exact again I7 n7
    | cont => obtain ⟨σ7, H7, I7, n7⟩ := q7; exact again I7 n7
    | brk => obtain ⟨σ7, H7, I7, q7⟩ := q7; exact ⟨σ7, H7, I7.unpinned, q7⟩
    | ret v => obtain ⟨x7, σ7, H7, I7, r7, q7⟩ := q7; exact ⟨x7, σ7, H7, I7.unpinned, r7, q7⟩
end

/-! ### the forms one uses -/
/-- over a list that the body leaves as it is -/
theorem for_list {K : PySem.W.Frag} {a : Addr} {xs : List V} {g : TG} {tb : TS} {D : Ends} {σ : St} {H : Hp} (Pv : Nat → St → Hp → Prop) (h0 : Pv 0 σ H) (hl : ∀ i σ H, i ≤ xs.length → Pv i σ H → SqL K H a xs)
    (hs : ∀ i x σ H, xs[i]? = some x → Pv i σ H → g x σ H fun σ2 H2 => tb { D with nx := Pv (i + 1), ct := Pv (i + 1), bk := D.nx } σ2 H2) (hd : ∀ σ H, Pv xs.length σ H → D.nx σ H) :
    ∃ W : Nat → Nat → St → Hp → Prop, (∃ m, W 0 m σ H) ∧ ∀ i m σ H, W i m σ H →
      ((Itl K a).stop i H ∧ D.nx σ H) ∨ ((Itl K a).go i H ∧ ∃ N : St → Hp → Prop, (∀ σ' H', N σ' H' → ∃ m', m' < m ∧ W (i + 1) m' σ' H') ∧ ∀ x H', (Itl K a).yld i H x H' → g x σ H' fun σ2 H2 => tb { D with nx := N, ct := N, bk := D.nx } σ2 H2) := by
  refine ⟨fun i m σ H => m = xs.length - i ∧ i ≤ xs.length ∧ Pv i σ H, ⟨xs.length, by simp, Nat.zero_le _, h0⟩, ?_⟩
  rintro i m σ H ⟨rfl, hi, p⟩
  have q := hl i σ H hi p
  by_cases hlt : i < xs.length
  · refine .inr ⟨⟨xs, xs[i], q, by simp [hlt]⟩, Pv (i + 1), fun σ' H' p' => ⟨xs.length - (i + 1), by omega, rfl, hlt, p'⟩, fun x H' y => ?_⟩
    obtain ⟨e, y⟩ := y
    subst e
    exact hs i x σ _ (y xs q) p
  · have e : i = xs.length := by omega
    subst e
    exact .inl ⟨⟨xs, q, Nat.le_refl _⟩, hd σ H p⟩
theorem for_tup {K : PySem.W.Frag} {a : Addr} {xs : List V} {g : TG} {tb : TS} {D : Ends} {σ : St} {H : Hp} (Pv : Nat → St → Hp → Prop) (h0 : Pv 0 σ H) (hl : ∀ i σ H, i ≤ xs.length → Pv i σ H → SqT K H a xs)
    (hs : ∀ i x σ H, xs[i]? = some x → Pv i σ H → g x σ H fun σ2 H2 => tb { D with nx := Pv (i + 1), ct := Pv (i + 1), bk := D.nx } σ2 H2) (hd : ∀ σ H, Pv xs.length σ H → D.nx σ H) :
    ∃ W : Nat → Nat → St → Hp → Prop, (∃ m, W 0 m σ H) ∧ ∀ i m σ H, W i m σ H →
      ((Itt K a).stop i H ∧ D.nx σ H) ∨ ((Itt K a).go i H ∧ ∃ N : St → Hp → Prop, (∀ σ' H', N σ' H' → ∃ m', m' < m ∧ W (i + 1) m' σ' H') ∧ ∀ x H', (Itt K a).yld i H x H' → g x σ H' fun σ2 H2 => tb { D with nx := N, ct := N, bk := D.nx } σ2 H2) := by
  refine ⟨fun i m σ H => m = xs.length - i ∧ i ≤ xs.length ∧ Pv i σ H, ⟨xs.length, by simp, Nat.zero_le _, h0⟩, ?_⟩
  rintro i m σ H ⟨rfl, hi, p⟩
  have q := hl i σ H hi p
  by_cases hlt : i < xs.length
  · refine .inr ⟨⟨xs, xs[i], q, by simp [hlt]⟩, Pv (i + 1), fun σ' H' p' => ⟨xs.length - (i + 1), by omega, rfl, hlt, p'⟩, fun x H' y => ?_⟩
    obtain ⟨e, y⟩ := y
    subst e
    exact hs i x σ _ (y xs q) p
  · have e : i = xs.length := by omega
    subst e
    exact .inl ⟨⟨xs, q, Nat.le_refl _⟩, hd σ H p⟩
theorem for_range {lo : Int} {n : Nat} {g : TG} {tb : TS} {D : Ends} {σ : St} {H : Hp} (Pv : Nat → St → Hp → Prop) (h0 : Pv 0 σ H)
    (hs : ∀ i σ H, i < n → Pv i σ H → g (.int (lo + i)) σ H fun σ2 H2 => tb { D with nx := Pv (i + 1), ct := Pv (i + 1), bk := D.nx } σ2 H2) (hd : ∀ σ H, Pv n σ H → D.nx σ H) :
    ∃ W : Nat → Nat → St → Hp → Prop, (∃ m, W 0 m σ H) ∧ ∀ i m σ H, W i m σ H →
      ((Itr lo n).stop i H ∧ D.nx σ H) ∨ ((Itr lo n).go i H ∧ ∃ N : St → Hp → Prop, (∀ σ' H', N σ' H' → ∃ m', m' < m ∧ W (i + 1) m' σ' H') ∧ ∀ x H', (Itr lo n).yld i H x H' → g x σ H' fun σ2 H2 => tb { D with nx := N, ct := N, bk := D.nx } σ2 H2) := by
  refine ⟨fun i m σ H => m = n - i ∧ i ≤ n ∧ Pv i σ H, ⟨n, by simp, Nat.zero_le _, h0⟩, ?_⟩
  rintro i m σ H ⟨rfl, hi, p⟩
  by_cases hlt : i < n
  · refine .inr ⟨hlt, Pv (i + 1), fun σ' H' p' => ⟨n - (i + 1), by omega, rfl, hlt, p'⟩, fun x H' y => ?_⟩
    obtain ⟨e, y⟩ := y
    subst e y
    exact hs i σ _ hlt p
  · have e : i = n := by omega
    subst e
    exact .inl ⟨Nat.le_refl _, hd σ H p⟩
end L2

namespace L2
open PySem PySem.Spec PyProof.Rows

noncomputable abbrev R2 := V → V → Hp → VK → Prop
/-- a two-place operation on values: f is binaryOp op, inplaceOp op or compareOp op -/
noncomputable def OpR (X : Cx) (f : Value → Value → Sem Value) (r : R2) : Prop :=
  ∀ (pins : List (Addr × Obj)) (s : Shared) (σ : St) (H : Hp) (x y : V) (v u : Value) (Q : VK), Inv X pins σ H s → RelV x v → RelV y u → r x y H Q →
    wpAny (model X.prog X.w) X.A (f v u) (EP X pins σ Q) X.xe s
/-- a one-place operation -/
noncomputable def UnR (X : Cx) (f : Value → Sem Value) (r : V → Hp → VK → Prop) : Prop :=
  ∀ (pins : List (Addr × Obj)) (s : Shared) (σ : St) (H : Hp) (x : V) (v : Value) (Q : VK), Inv X pins σ H s → RelV x v → r x H Q →
    wpAny (model X.prog X.w) X.A (f v) (EP X pins σ Q) X.xe s
/-- a call of a value that is known (a builtin, a type) with values -/
noncomputable def CallR (X : Cx) (f : Value) (r : List V → Hp → VK → Prop) : Prop :=
  ∀ (pins : List (Addr × Obj)) (s : Shared) (σ : St) (H : Hp) (xs : List V) (us : List Value) (Q : VK), Inv X pins σ H s → Vals xs us → r xs H Q →
    wpAny (model X.prog X.w) X.A (call f us) (EP X pins σ Q) X.xe s
noncomputable def tOp (r : R2) (ta tb : TE) : TE := fun σ H Q => ta σ H fun x H1 => tb σ H1 fun y H2 => r x y H2 Q
noncomputable def tUn (r : V → Hp → VK → Prop) (ta : TE) : TE := fun σ H Q => ta σ H fun x H1 => r x H1 Q
/-- ints in, under C, and a value out -/
noncomputable def rI (C : Int → Int → Prop) (g : Int → Int → V) : R2 := fun x y H Q => ∃ i j, x = .int i ∧ y = .int j ∧ C i j ∧ Q (g i j) H
noncomputable def rI0 (g : Int → Int → V) : R2 := fun x y H Q => ∃ i j, x = .int i ∧ y = .int j ∧ Q (g i j) H
noncomputable def rU (g : Int → V) : V → Hp → VK → Prop := fun x H Q => ∃ i, x = .int i ∧ Q (g i) H

section
variable {X : Cx} {a b c : Expr} {ta tb tc : TE} {pos : Pos}

theorem binT (ha : PE X a ta) (hb : PE X b tb) {pins : List (Addr × Obj)} {s : Shared} {σ : St} {H : Hp} {R : V → V → Hp → Prop} (I : Inv X pins σ H s)
    (h : ta σ H fun x H1 => tb σ H1 fun y H2 => R x y H2) {Q : Value → Shared → Prop} {f : Value → Value → Sem Value}
    (hf : ∀ v u s2 x y H2, Inv X pins σ H2 s2 → RelV x v → RelV y u → R x y H2 → wpAny (model X.prog X.w) X.A (f v u) Q X.xe s2) :
    wpAny (model X.prog X.w) X.A (eval a X.env) (fun v s₁ => wpAny (model X.prog X.w) X.A (eval b X.env) (fun u s₂ => wpAny (model X.prog X.w) X.A (f v u) Q X.xe s₂) X.xe s₁) X.xe s := by
  refine thn (ha pins s σ H _ I h) fun v s1 ⟨x, H1, I1, r1, q1⟩ => ?_
  refine thn (hb pins s1 σ H1 _ I1 q1) fun u s2 ⟨y, H2, I2, r2, q2⟩ => ?_
  exact hf v u s2 x y H2 I2 r1 r2 q2

theorem pe_op {op : Operator} {r : R2} (ho : OpR X (binaryOp op) r) (ha : PE X a ta) (hb : PE X b tb) : PE X (.BinOp a op b pos) (tOp r ta tb) := by
  intro pins s σ H Q I h
  exact wpAny_BinOp (binT ha hb I h fun v u s2 x y H2 I2 rx ry q => ho pins s2 σ H2 x y v u Q I2 rx ry q)
theorem pe_un {op : UnaryOp} {r : V → Hp → VK → Prop} (ho : UnR X (unaryOp op) r) (ha : PE X a ta) : PE X (.UnaryOp op a pos) (tUn r ta) := by
  intro pins s σ H Q I h
  exact UnaryOp_ (thn (ha pins s σ H _ I h) fun v s1 ⟨x, H1, I1, r1, q1⟩ => ho pins s1 σ H1 x v Q I1 r1 q1)
/-! ### ints -/
theorem opI {f : Value → Value → Sem Value} {C : Int → Int → Prop} {g : Int → Int → Int}
    (rule : ∀ (i j : Int) (t u : Tok) (s : Shared) (Q : Value → Shared → Prop) (E : Value → Shared → Prop), C i j → Q (.int (g i j) s.toks) { s with toks := s.toks + 1 } → wpAny (model X.prog X.w) X.A (f (.int i t) (.int j u)) Q E s) :
    OpR X f (rI C fun i j => .int (g i j)) := by
  intro pins s σ H x y v u Q I rx ry h
  obtain ⟨i, j, rfl, rfl, hc, q⟩ := h
  obtain ⟨t, rfl⟩ := rx
  obtain ⟨t', rfl⟩ := ry
  exact rule i j t t' s _ _ hc ⟨.int (g i j), H, I.tok _, ⟨_, rfl⟩, q⟩
theorem opI0 {f : Value → Value → Sem Value} {g : Int → Int → Int}
    (rule : ∀ (i j : Int) (t u : Tok) (s : Shared) (Q : Value → Shared → Prop) (E : Value → Shared → Prop), Q (.int (g i j) s.toks) { s with toks := s.toks + 1 } → wpAny (model X.prog X.w) X.A (f (.int i t) (.int j u)) Q E s) :
    OpR X f (rI0 fun i j => .int (g i j)) := by
  intro pins s σ H x y v u Q I rx ry h
  obtain ⟨i, j, rfl, rfl, q⟩ := h
  obtain ⟨t, rfl⟩ := rx
  obtain ⟨t', rfl⟩ := ry
  exact rule i j t t' s _ _ ⟨.int (g i j), H, I.tok _, ⟨_, rfl⟩, q⟩
theorem opB0 {f : Value → Value → Sem Value} {g : Int → Int → Bool}
    (rule : ∀ (i j : Int) (t u : Tok) (s : Shared) (Q : Value → Shared → Prop) (E : Value → Shared → Prop), Q (.bool (g i j)) s → wpAny (model X.prog X.w) X.A (f (.int i t) (.int j u)) Q E s) :
    OpR X f (rI0 fun i j => .bl (g i j)) := by
  intro pins s σ H x y v u Q I rx ry h
  obtain ⟨i, j, rfl, rfl, q⟩ := h
  obtain ⟨t, rfl⟩ := rx
  obtain ⟨t', rfl⟩ := ry
  exact rule i j t t' s _ _ ⟨.bl (g i j), H, I, rfl, q⟩

noncomputable def CPow (i j : Int) : Prop := 0 ≤ j ∧ j ≤ 1000000 ∧ i.natAbs < 2 ^ 64
noncomputable def CMul (i j : Int) : Prop := (-(2 ^ 64) < i ∧ i < 2 ^ 64) ∨ (-(2 ^ 64) < j ∧ j < 2 ^ 64)
theorem CMul.ok {i j : Int} (h : CMul i j) : IntMulOk i j := by
  rcases h with ⟨h1, h2⟩ | ⟨h1, h2⟩
  · exact .of_left (intBits_le_64 h1 h2)
  · exact .of_right (intBits_le_64 h1 h2)
theorem op_add : OpR X (binaryOp .Add) (rI0 fun i j => .int (i + j)) := opI0 fun _ _ _ _ _ _ _ q => add_int q
theorem op_sub : OpR X (binaryOp .Sub) (rI0 fun i j => .int (i - j)) := opI0 fun _ _ _ _ _ _ _ q => sub_int q
theorem op_mul : OpR X (binaryOp .Mult) (rI CMul fun i j => .int (i * j)) := opI fun _ _ _ _ _ _ _ hc q => mul_int q hc.ok
/-- % by a positive divisor of any size -/
theorem op_mod : OpR X (binaryOp .Mod) (rI (fun _ j => 0 < j) fun i j => .int (i % j)) := opI fun i j _ _ _ _ _ hc q => by
  have h1 : (0 : Int) < j := hc
  exact mod_int' (by omega) (by rw [Int.fmod_eq_emod_of_nonneg i (by omega)]; exact q)
theorem op_pow : OpR X (binaryOp .Pow) (rI CPow fun i j => .int (i ^ j.toNat)) := opI fun _ _ _ _ _ _ _ hc q => pow_int_small hc.1 hc.2.1 hc.2.2 q
theorem unI {f : Value → Sem Value} {g : Int → Int}
    (rule : ∀ (i : Int) (t : Tok) (s : Shared) (Q : Value → Shared → Prop) (E : Value → Shared → Prop), Q (.int (g i) s.toks) { s with toks := s.toks + 1 } → wpAny (model X.prog X.w) X.A (f (.int i t)) Q E s) :
    UnR X f (rU fun i => .int (g i)) := by
  intro pins s σ H x v Q I rx h
  obtain ⟨i, rfl, q⟩ := h
  obtain ⟨t, rfl⟩ := rx
  exact rule i t s _ _ ⟨.int (g i), H, I.tok _, ⟨_, rfl⟩, q⟩
theorem un_neg : UnR X (unaryOp .USub) (rU fun i => .int (-i)) := unI fun _ _ _ _ _ q => neg_int q
/-! ### bools among ints: n += (a < b) -/
end

/-! ### comparisons -/
/-- the scalars that == tells apart as data does -/
noncomputable def scal : V → V → Bool
  | .non, .non => true | .non, .int _ => true | .int _, .non => true | .non, .bl _ => true | .bl _, .non => true | .non, .str _ => true | .str _, .non => true
  | .int _, .int _ => true | .bl _, .bl _ => true | .str _, .str _ => true | .byt _, .byt _ => true
  | .int _, .str _ => true | .str _, .int _ => true | .bl _, .str _ => true | .str _, .bl _ => true
  | _, _ => false
noncomputable def rEq : R2 := fun x y H Q => scal x y = true ∧ Q (.bl (decide (x = y))) H
noncomputable def rNe : R2 := fun x y H Q => scal x y = true ∧ Q (.bl (!decide (x = y))) H

theorem dec_int {i j : Int} : decide (V.int i = V.int j) = (i == j) := by
  rw [Bool.eq_iff_iff]
  simp
theorem dec_bl {i j : Bool} : decide (V.bl i = V.bl j) = (i == j) := by
  rw [Bool.eq_iff_iff]
  simp
theorem dec_str {i j : Str} : decide (V.str i = V.str j) = (i == j) := by
  rw [Bool.eq_iff_iff]
  simp
theorem dec_byt {i j : Array UInt8} : decide (V.byt i = V.byt j) = (i.toList == j.toList) := by
  rw [Bool.eq_iff_iff]
  cases i
  cases j
  simp

section
variable {X : Cx} {a b c : Expr} {ta tb tc : TE} {pos : Pos}
theorem fin_bl {pins : List (Addr × Obj)} {σ : St} {H : Hp} {s : Shared} {Q : VK} {k k' : Bool} (I : Inv X pins σ H s) (q : Q (.bl k) H) (e : k = k') : EP X pins σ Q (.bool k') s := by
  subst e
  exact ⟨.bl k, H, I, rfl, q⟩
theorem op_eq : OpR X (compareOp .Eq) rEq := by
  intro pins s σ H x y v u Q I rx ry h
  obtain ⟨hs, q⟩ := h
  cases x with
  | non =>
    cases rx
    cases y with
    | non => cases ry; exact PySem.EqNone.eq_none_none (fin_bl I q (by simp))
    | bl j => cases ry; exact PySem.EqNone.eq_none_bool (fin_bl I q (by simp))
    | int j => obtain ⟨t', rfl⟩ := ry; exact PySem.EqNone.eq_none_int (fin_bl I q (by simp))
    | str j => obtain ⟨t', rfl⟩ := ry; exact PySem.EqNone.eq_none_str (fin_bl I q (by simp))
    | _ => exact absurd (show false = true from hs) Bool.false_ne_true
  | bl i =>
    cases rx
    cases y with
    | non => cases ry; exact PySem.EqNone.eq_bool_none (fin_bl I q (by simp))
    | bl j => cases ry; exact eq_bool (fin_bl I q dec_bl)
    | str j => obtain ⟨t', rfl⟩ := ry; exact PySem.EqMixed.eq_bool_str (fin_bl I q (by simp))
    | _ => exact absurd (show false = true from hs) Bool.false_ne_true
  | int i =>
    obtain ⟨t, rfl⟩ := rx
    cases y with
    | non => cases ry; exact PySem.EqNone.eq_int_none (fin_bl I q (by simp))
    | int j => obtain ⟨t', rfl⟩ := ry; exact eq_int (fin_bl I q dec_int)
    | str j => obtain ⟨t', rfl⟩ := ry; exact PySem.EqMixed.eq_int_str (fin_bl I q (by simp))
    | _ => exact absurd (show false = true from hs) Bool.false_ne_true
  | str i =>
    obtain ⟨t, rfl⟩ := rx
    cases y with
    | non => cases ry; exact PySem.EqNone.eq_str_none (fin_bl I q (by simp))
    | bl j => cases ry; exact PySem.EqMixed.eq_str_bool (fin_bl I q (by simp))
    | int j => obtain ⟨t', rfl⟩ := ry; exact PySem.EqMixed.eq_str_int (fin_bl I q (by simp))
    | str j => obtain ⟨t', rfl⟩ := ry; exact eq_str (fin_bl I q dec_str)
    | _ => exact absurd (show false = true from hs) Bool.false_ne_true
  | byt i =>
    obtain ⟨t, rfl⟩ := rx
    cases y with
    | byt j => obtain ⟨t', rfl⟩ := ry; exact PySem.W.eq_bytes (fin_bl I q dec_byt)
    | _ => exact absurd (show false = true from hs) Bool.false_ne_true
  | _ => cases y <;> exact absurd (show false = true from hs) Bool.false_ne_true
theorem op_ne : OpR X (compareOp .NotEq) rNe := by
  intro pins s σ H x y v u Q I rx ry h
  obtain ⟨hs, q⟩ := h
  cases x with
  | non =>
    cases rx
    cases y with
    | non => cases ry; exact PySem.EqNone.ne_none_none (fin_bl I q (by simp))
    | bl j => cases ry; exact PySem.EqNone.ne_none_bool (fin_bl I q (by simp))
    | int j => obtain ⟨t', rfl⟩ := ry; exact PySem.EqNone.ne_none_int (fin_bl I q (by simp))
    | str j => obtain ⟨t', rfl⟩ := ry; exact PySem.EqNone.ne_none_str (fin_bl I q (by simp))
    | _ => exact absurd (show false = true from hs) Bool.false_ne_true
  | bl i =>
    cases rx
    cases y with
    | non => cases ry; exact PySem.EqNone.ne_bool_none (fin_bl I q (by simp))
    | bl j => cases ry; exact ne_bool (fin_bl I q (congrArg not dec_bl))
    | str j => obtain ⟨t', rfl⟩ := ry; exact PySem.EqMixed.ne_bool_str (fin_bl I q (by simp))
    | _ => exact absurd (show false = true from hs) Bool.false_ne_true
  | int i =>
    obtain ⟨t, rfl⟩ := rx
    cases y with
    | non => cases ry; exact PySem.EqNone.ne_int_none (fin_bl I q (by simp))
    | int j => obtain ⟨t', rfl⟩ := ry; exact ne_int (fin_bl I q (congrArg not dec_int))
    | str j => obtain ⟨t', rfl⟩ := ry; exact PySem.EqMixed.ne_int_str (fin_bl I q (by simp))
    | _ => exact absurd (show false = true from hs) Bool.false_ne_true
  | str i =>
    obtain ⟨t, rfl⟩ := rx
    cases y with
    | non => cases ry; exact PySem.EqNone.ne_str_none (fin_bl I q (by simp))
    | bl j => cases ry; exact PySem.EqMixed.ne_str_bool (fin_bl I q (by simp))
    | int j => obtain ⟨t', rfl⟩ := ry; exact PySem.EqMixed.ne_str_int (fin_bl I q (by simp))
    | str j => obtain ⟨t', rfl⟩ := ry; exact ne_str (fin_bl I q (congrArg not dec_str))
    | _ => exact absurd (show false = true from hs) Bool.false_ne_true
  | byt i =>
    obtain ⟨t, rfl⟩ := rx
    cases y with
    | byt j => obtain ⟨t', rfl⟩ := ry; exact PySem.W.ne_bytes (fin_bl I q (congrArg not dec_byt))
    | _ => exact absurd (show false = true from hs) Bool.false_ne_true
  | _ => cases y <;> exact absurd (show false = true from hs) Bool.false_ne_true

theorem op_lt : OpR X (compareOp .Lt) (rI0 fun i j => .bl (decide (i < j))) := opB0 fun _ _ _ _ _ _ _ q => lt_int q
theorem op_le : OpR X (compareOp .LtE) (rI0 fun i j => .bl (decide (i ≤ j))) := opB0 fun _ _ _ _ _ _ _ q => le_int q
theorem op_gt : OpR X (compareOp .Gt) (rI0 fun i j => .bl (decide (j < i))) := opB0 fun _ _ _ _ _ _ _ q => gt_int q
theorem op_ge : OpR X (compareOp .GtE) (rI0 fun i j => .bl (decide (j ≤ i))) := opB0 fun _ _ _ _ _ _ _ q => ge_int q
/-- the one string within the other -/
theorem op_in_str : OpR X (compareOp .In) (fun x y H Q => ∃ i j, x = .str i ∧ y = .str j ∧ Q (.bl (!(Builtin.Str.occurrences j i 0 j.length 1).isEmpty)) H) := by
  intro pins s σ H x y v u Q I rx ry h
  obtain ⟨i, j, rfl, rfl, q⟩ := h
  obtain ⟨t, rfl⟩ := rx
  obtain ⟨t', rfl⟩ := ry
  exact in_str (fin_bl I q rfl)

/-- is None, is not None: the right side a value none -/
theorem op_isN : OpR X (compareOp .Is) (fun x y H Q => y = .non ∧ Q (.bl (decide (x = .non))) H) := by
  intro pins s σ H x y v u Q I rx ry h
  obtain ⟨rfl, q⟩ := h
  cases ry
  refine is_none_gen (fin_bl I q ?_)
  cases x <;> first
    | (cases rx; rfl)
    | (obtain ⟨t, rfl⟩ := rx; rfl)
theorem nomark (b : Expr) {op : CmpOp} (h : op ≠ .In := by decide) (h2 : op ≠ .NotIn := by decide) : behindInMarks op b = false := by
  have e1 : (op == CmpOp.In) = false := by cases op <;> first | rfl | exact absurd rfl h
  have e2 : (op == CmpOp.NotIn) = false := by cases op <;> first | rfl | exact absurd rfl h2
  cases b <;> simp [behindInMarks, e1, e2]
/-- a comparison as a value; hm: nomark b, or (for in, not in) by with_unfolding_all rfl -/
theorem pe_cmpR {op : CmpOp} {r : R2} (ho : OpR X (compareOp op) r) (ha : PE X a ta) (hb : PE X b tb) (hm : behindInMarks op b = false) : PE X (.Compare a [op] [b] pos) (tOp r ta tb) := by
  intro pins s σ H Q I h
  exact wpAny_Compare1 (binT ha hb I h fun v u s2 x y H2 I2 rx ry q => ho pins s2 σ H2 x y v u Q I2 rx ry q) hm
/-- a reading of a value as a test -/
noncomputable def tTest (t : TE) : TT := fun σ H Q => t σ H fun x H' => ∃ k, x = .bl k ∧ Q k H'
theorem pt_cmpR {op : CmpOp} {r : R2} (ho : OpR X (compareOp op) r) (ha : PE X a ta) (hb : PE X b tb) (hm : behindInMarks op b = false) : PT X (.Compare a [op] [b] pos) (tTest (tOp r ta tb)) := by
  intro pins s σ H Q I h
  refine wpAny_isTrue_Compare1 (thn (ha pins s σ H _ I h) fun v s1 ⟨x, H1, I1, r1, q1⟩ => thn (hb pins s1 σ H1 _ I1 q1) fun u s2 ⟨y, H2, I2, r2, q2⟩ =>
    thn (ho pins s2 σ H2 x y v u _ I2 r1 r2 q2) fun c s3 ⟨z, H3, I3, r3, k, e, q3⟩ => ?_) hm
  subst e
  cases r3
  exact wpAny_truthy_bool ⟨H3, I3, q3⟩
/-- a op1 b op2 c -/
noncomputable def tChain (r r' : R2) (ta tb tc : TE) : TE := fun σ H Q => ta σ H fun x H1 => tb σ H1 fun y H2 => r x y H2 fun z H3 => ∃ k, z = .bl k ∧
  (if k = true then tc σ H3 fun w' H4 => r' y w' H4 Q else Q (.bl false) H3)
theorem pt_chain {op op' : CmpOp} {r r' : R2} (ho : OpR X (compareOp op) r) (ho' : OpR X (compareOp op') r') (ha : PE X a ta) (hb : PE X b tb) (hc : PE X c tc)
    (hm : lastMarks [op, op'] [b, c] = false := by with_unfolding_all rfl) : PT X (.Compare a [op, op'] [b, c] pos) (tTest (tChain r r' ta tb tc)) := by
  intro pins s σ H Q I h
  refine isTrue_chain (thn (ha pins s σ H _ I h) fun v s1 ⟨x, H1, I1, r1, q1⟩ => test_link (thn (hb pins s1 σ H1 _ I1 q1) fun u s2 ⟨y, H2, I2, r2, q2⟩ =>
    thn (ho pins s2 σ H2 x y v u _ I2 r1 r2 q2) fun d s3 ⟨z, H3, I3, r3, k, e, q3⟩ => ?_)) hm
  subst e
  cases r3
  refine wpAny_truthy_bool ?_
  cases k with
  | false =>
    obtain ⟨k', e', q'⟩ := q3
    cases e'
    exact ite_ff ⟨H3, I3, q'⟩
  | true =>
    refine ite_tt (test_last (thn (hc pins s3 σ H3 _ I3 q3) fun w' s4 ⟨z', H4, I4, r4, q4⟩ => thn (ho' pins s4 σ H4 y z' u w' _ I4 r2 r4 q4) fun d' s5 ⟨z2, H5, I5, r5, k2, e2, q5⟩ => ?_))
    subst e2
    cases r5
    exact wpAny_truthy_bool ⟨H5, I5, q5⟩

/-! ### truth -/
theorem line63 : (sizeLine : Nat) < 2 ^ 63 := by rw [sizeLine_eq]; decide
/-! ### strs and bytes -/
theorem op_add_str : OpR X (binaryOp .Add) (fun x y H Q => ∃ i j, x = .str i ∧ y = .str j ∧ i.length + j.length ≤ sizeLine ∧ Q (.str (i ++ j)) H) := by
  intro pins s σ H x y v u Q I rx ry h
  obtain ⟨i, j, rfl, rfl, hz, q⟩ := h
  obtain ⟨t, rfl⟩ := rx
  obtain ⟨t', rfl⟩ := ry
  exact add_str (fun t' tk => ⟨.str (i ++ j), H, I.tok _, ⟨_, rfl⟩, q⟩) hz
/-! ### scalar builtins, by CallR -/
theorem vals1 {x : V} {us : List Value} (r : Vals [x] us) : ∃ u, us = [u] ∧ RelV x u := by
  cases r with
  | cons r1 r2 => cases r2; exact ⟨_, rfl, r1⟩
theorem vals2 {x y : V} {us : List Value} (r : Vals [x, y] us) : ∃ u w', us = [u, w'] ∧ RelV x u ∧ RelV y w' := by
  cases r with
  | cons r1 r2 =>
    cases r2 with
    | cons r3 r4 => cases r4; exact ⟨_, _, rfl, r1, r3⟩
theorem call_abs : CallR X (.builtin "abs") (fun xs H Q => ∃ i, xs = [.int i] ∧ Q (.int (if i < 0 then -i else i)) H) := by
  intro pins s σ H xs us Q I r h
  obtain ⟨i, rfl, q⟩ := h
  obtain ⟨u, rfl, t, rfl⟩ := vals1 r
  exact call_abs_int fun u tk => ⟨.int (if i < 0 then -i else i), H, I.tok _, ⟨_, rfl⟩, q⟩
theorem call_min2 (hc : X.calm = true) : CallR X (.builtin "min") (fun xs H Q => ∃ i j, xs = [.int i, .int j] ∧ Q (.int (if j < i then j else i)) H) := by
  intro pins s σ H xs us Q I r h
  obtain ⟨i, j, rfl, q⟩ := h
  obtain ⟨u, w', rfl, ⟨t, rfl⟩, ⟨t', rfl⟩⟩ := vals2 r
  refine min_two_ints (I.ok.hd hc) fun h' tk k => ⟨_, H, I.kept k, ?_, q⟩
  by_cases hj : j < i
  · rw [if_pos hj, if_pos hj]; exact ⟨_, rfl⟩
  · rw [if_neg hj, if_neg hj]; exact ⟨_, rfl⟩
theorem call_str_int : CallR X (.type "str") (fun xs H Q => ∃ i, xs = [.int i] ∧ i.natAbs.log2 < 1920 ∧ Q (.str (toString i)) H) := by
  intro pins s σ H xs us Q I r h
  obtain ⟨i, rfl, hz, q⟩ := h
  obtain ⟨u, rfl, t, rfl⟩ := vals1 r
  exact PySem.P.str_of_int hz ⟨.str _, H, I.tok _, ⟨_, rfl⟩, q⟩
/-- len of a str, a bytes, a list, a tuple -/
noncomputable def LenV (K : PySem.W.Frag) (x : V) (H : Hp) (n : Nat) : Prop :=
  match x with
  | .str y => y.length ≤ sizeLine ∧ n = y.length
  | .byt y => y.size ≤ sizeLine ∧ n = y.size
  | .ref p => (∃ xs, SqL K H p xs ∧ n = xs.length) ∨ ∃ xs, SqT K H p xs ∧ n = xs.length
  | _ => False
theorem call_len : CallR X (.builtin "len") (fun xs H Q => ∃ x n, xs = [x] ∧ LenV X.K x H n ∧ Q (.int n) H) := by
  intro pins s σ H xs us Q I r h
  obtain ⟨x, n, rfl, e, q⟩ := h
  obtain ⟨u, rfl, rx⟩ := vals1 r
  have hl := line63
  have hs : sizeLine = 16777216 := sizeLine_eq
  cases x with
  | str y =>
    obtain ⟨t, rfl⟩ := rx
    obtain ⟨hy, e'⟩ : y.length ≤ sizeLine ∧ n = y.length := e
    subst e'
    exact len_str (by omega) ⟨.int _, H, I.tok _, ⟨_, rfl⟩, q⟩
  | byt y =>
    obtain ⟨t, rfl⟩ := rx
    obtain ⟨hy, e'⟩ : y.size ≤ sizeLine ∧ n = y.size := e
    subst e'
    exact PySem.W.len_bytes (by omega) ⟨.int _, H, I.tok _, ⟨_, rfl⟩, q⟩
  | ref p =>
    cases rx
    have e' : (∃ xs, SqL X.K H p xs ∧ n = xs.length) ∨ ∃ xs, SqT X.K H p xs ∧ n = xs.length := e
    rcases e' with ⟨xs, hx, e'⟩ | ⟨xs, hx, e'⟩
    · subst e'
      obtain ⟨its, r', pl, hz⟩ := I.list hx
      have hlen := r'.length
      exact Calls.call_len_list pl.isList (by simp only [List.size_toArray]; omega) ⟨.int xs.length, H, I.tok _, ⟨_, by simp only [List.size_toArray]; rw [hlen]⟩, q⟩
    · subst e'
      obtain ⟨its, r', pl, hz⟩ := I.tuple hx
      have hlen := r'.length
      exact len_tuple pl (by simp only [List.size_toArray]; omega) ⟨.int xs.length, H, I.tok _, ⟨_, by simp only [List.size_toArray]; rw [hlen]⟩, q⟩
  | _ => exact (show False from e).elim
end
end L2

namespace L2
open PySem PySem.Spec PyProof.Rows

/-! ### an instance, its attributes a map -/
structure ObjM (h : Heap) (x dx C : Addr) (mA : Str → Option Value) : Prop where
  obj : h.get? x = some (PySem.W.instObj C dx)
  ns : h.Ns1 dx mA
  ne : dx ≠ x

theorem lookIn_ns {h : Heap} {dx : Addr} {mA : Str → Option Value} (n : h.Ns1 dx mA) : ∃ od, h.get? dx = some od ∧ ∀ name, PySem.W.lookIn name od = some (mA name) := by
  obtain ⟨o, es, ep, ho, hd, hk, _, hm⟩ := n
  refine ⟨o, ho, fun name => ?_⟩
  have e := hm name
  unfold nsFind findBy at e
  rw [← Array.find?_toList] at e
  unfold PySem.W.lookIn
  rw [hd]
  dsimp only
  split
  · rename_i y q
    rw [q] at e
    exact congrArg some e
  · rename_i q
    rw [q] at e
    have a : es.toList.any (·.refKey) = false := by
      rw [List.any_eq_false]
      intro y hy
      obtain ⟨z, t, hkey⟩ := hk y (Array.mem_toList_iff.mp hy)
      simp [DictEntry.refKey, hkey]
    have a' : ¬ es.toList.any (·.refKey) = true := by rw [a]; exact Bool.false_ne_true
    rw [if_neg a']
    exact congrArg some e

theorem ObjM.look {h : Heap} {x dx C : Addr} {mA : Str → Option Value} (I : ObjM h x dx C mA) : ∃ od, PySem.W.InstAt h x (PySem.W.instObj C dx) C (some od) ∧ ∀ name, PySem.W.lookIn name od = some (mA name) :=
  let ⟨od, ho, hl⟩ := lookIn_ns I.ns
  ⟨od, ⟨I.obj, rfl, rfl, ho⟩, hl⟩

section
variable {prog : Program} {w : World} {A : Around} {E : Value → Shared → Prop} {s : Shared} {K : PySem.W.Frag} {x dx C f : Addr} {mA : Str → Option Value} {name : Str} {v : Value}

end

/-! ### the attributes as a list of pairs -/
theorem RelO.some_of {v : V} {o : Option Value} (r : RelO (some v) o) : ∃ u, o = some u ∧ RelV v u := by
  cases o with
  | none => exact (show False from r).elim
  | some u => exact ⟨u, rfl, r⟩
section
variable {P : Program} {w : World} {H H' : Hp} {h h' : Heap} {a C dx : Addr} {fs fs' : List (Str × V)}
theorem ins_get (hok : HOk P w H h) (e : H a = some (.ins C dx fs)) : ∃ mA, ObjM h a dx C mA ∧ (∀ f, RelO (fs.lookup f) (mA f)) ∧ PySem.Within mA (fs.map (·.1)) ∧ fs.length ≤ 1000 ∧ H dx = some (.own a) := by
  obtain ⟨d, z, ne, ob, mA, n, r, q⟩ := (show ObjOk P w H h a (.ins C dx fs) from hok a _ e)
  exact ⟨mA, ⟨ob, n, ne⟩, r, q, z, d⟩
end

/-! ### what of the text a class must have -/
structure Cls (K : PySem.W.Frag) (C : Addr) : Prop where
  pg : PySem.W.plainGet K C Str.empty = true
  hd : PySem.W.hasDictIn K C = true
  po : PySem.W.plainOver K C = true
  sa : PySem.W.findIn K (.ref C) "__setattr__" = some (some (.builtin "object.__setattr__"))
theorem Cls.get {K : PySem.W.Frag} {C : Addr} (c : Cls K C) (f : Str) : PySem.W.plainGet K C f = true := c.pg
section
variable {X : Cx} {pins : List (Addr × Obj)} {σ : St} {H : Hp} {s : Shared} {a C dx : Addr} {fs : List (Str × V)} {f : Str} {v : V} {A : Around} {E : Value → Shared → Prop}

end

/-! ### readings and rules -/
section
variable {X : Cx} {o e value : Expr} {f : Str} {pos pos' tpos : Pos} {ta tv : TE}
end

/-! ### isinstance -/
section
variable {X : Cx} {pins : List (Addr × Obj)} {σ : St} {H : Hp} {s : Shared} {A : Around} {E : Value → Shared → Prop} {Q : Value → Shared → Prop} {c : Value} {b : Bool}
/-- the type of a value, as the fragment's deciders take it; for an instance its class -/
inductive TyOf (K : PySem.W.Frag) (H : Hp) : V → Value → Prop where
  | non : TyOf K H .non (.type "NoneType")
  | bl (x : Bool) : TyOf K H (.bl x) (.type "bool")
  | int (i : Int) : TyOf K H (.int i) (.type "int")
  | str (x : Str) : TyOf K H (.str x) (.type "str")
  | flt (x : UInt64) : TyOf K H (.flt x) (.type "float")
  | lst {a : Addr} {xs : List V} (e : H a = some (.lst xs)) : TyOf K H (.ref a) (.type "list")
  | frz {a : Addr} {o : Obj} {xs : List V} (e : H a = some (.frz o (.lst xs))) : TyOf K H (.ref a) (.type "list")
  | tup {a : Addr} {xs : List V} (e : H a = some (.tup xs)) : TyOf K H (.ref a) (.type "tuple")
  | dK {a : Addr} {kvs : List (Key × V)} (e : H a = some (.dK kvs)) : TyOf K H (.ref a) (.type "dict")
  | dT {a : Addr} {kvs : List (List Key × V)} (e : H a = some (.dT kvs)) : TyOf K H (.ref a) (.type "dict")
  | ins {a C dx : Addr} {fs : List (Str × V)} (e : H a = some (.ins C dx fs)) (cl : Cls K C) (ha : PySem.W.findIn K (.ref C) "__class__" = some (some (.builtin "object.__class__")))
      (hn : PySem.W.specialIn K (.builtin "object.__class__") "__get__" = some (some (.builtin "getset_descriptor.__get__"))) (htk : PySem.W.takesIn K (.builtin "object.__class__") = some true)
      (hm : PySem.W.mroIn K C (.type "object") = some true) : TyOf K H (.ref a) (.ref C)
/-- isinstance(x, c) for one class c, a built-in or an own one: kitOne's answer -/
theorem isinst_ok {x : V} {u t : Value} (I : Inv X pins σ H s) (rx : RelV x u) (ty : TyOf X.K H x t) (e : PySem.W.kitOne X.K t c = some b) (h : ∀ tk, Q (.bool b) { s with toks := tk }) :
    wpAny (model X.prog X.w) A (call (.builtin "isinstance") [u, c]) Q E s := by
  cases ty with
  | non => cases (show u = Value.none from rx); exact PySem.W.kia_one PySem.W.kitx_none I.kIn True.intro e (fun z => nomatch z) h
  | bl y => cases (show u = Value.bool y from rx); exact PySem.W.kia_one PySem.W.kitx_bool I.kIn True.intro e (fun z => nomatch z) h
  | int i => obtain ⟨t, q⟩ := (show ∃ t, u = Value.int i t from rx); cases q; exact PySem.W.kia_one PySem.W.kitx_int I.kIn True.intro e (fun z => nomatch z) h
  | str y => obtain ⟨t, q⟩ := (show ∃ t, u = Value.str y t from rx); cases q; exact PySem.W.kia_one PySem.W.kitx_str I.kIn True.intro e (fun z => nomatch z) h
  | flt y => obtain ⟨t, q⟩ := (show ∃ t, u = Value.float y t from rx); cases q; exact PySem.W.kia_one PySem.W.kitx_float I.kIn True.intro e (fun z => nomatch z) h
  | @lst a xs ea =>
    cases (show u = Value.ref a from rx)
    obtain ⟨_, _, n, _, h1⟩ := (show ObjOk X.prog X.w H s.heap a (.lst xs) from I.hok a _ ea)
    exact PySem.W.kia_one PySem.W.kitx_list I.kIn ⟨_, h1, rfl⟩ e (fun z => nomatch z) h
  | @frz a ob xs ea =>
    cases (show u = Value.ref a from rx)
    obtain ⟨_, _, _, n, _, h1⟩ := (show ObjOk X.prog X.w H s.heap a (.frz ob (.lst xs)) from I.hok a _ ea)
    exact PySem.W.kia_one PySem.W.kitx_list I.kIn ⟨_, h1, rfl⟩ e (fun z => nomatch z) h
  | @tup a xs ea =>
    cases (show u = Value.ref a from rx)
    obtain ⟨_, _, _, p⟩ := (show ObjOk X.prog X.w H s.heap a (.tup xs) from I.hok a _ ea)
    obtain ⟨o, h1, h2, _⟩ := p
    exact PySem.W.kia_one PySem.W.kitx_tuple I.kIn ⟨o, h1, h2⟩ e (fun z => nomatch z) h
  | @dK a kvs ea =>
    cases (show u = Value.ref a from rx)
    obtain ⟨_, _, vs, _, p⟩ := (show ObjOk X.prog X.w H s.heap a (.dK kvs) from I.hok a _ ea)
    obtain ⟨o, es, ep, h1, h2, _⟩ := p
    exact PySem.W.kia_one PySem.W.kitx_dict I.kIn ⟨o, h1, h2.1⟩ e (fun z => nomatch z) h
  | @dT a kvs ea =>
    cases (show u = Value.ref a from rx)
    obtain ⟨_, _, xs, _, o, es, ep, h1, h2, _⟩ := (show ObjOk X.prog X.w H s.heap a (.dT kvs) from I.hok a _ ea)
    exact PySem.W.kia_one PySem.W.kitx_dict I.kIn ⟨o, h1, h2.1⟩ e (fun z => nomatch z) h
  | @ins a C dx fs ea cl ha hn htk hm =>
    cases (show u = Value.ref a from rx)
    obtain ⟨mA, O, _⟩ := ins_get I.hok ea
    obtain ⟨od, J, _⟩ := O.look
    exact PySem.W.kia_one (PySem.W.kitx_own (cl.get _) cl.hd ha hn htk hm) I.kIn J e (fun z => nomatch z) h
end
end L2

namespace L2
open PySem PySem.Spec PyProof.Rows

/-! ### room -/
structure Room (k : Nat) (A : Around) : Prop where
  hd : A.handled = none
  dp : A.depth + 3 * k + 5 < recursionLimit
  un : A.units + 16 * k + 200 < cLine
theorem Room.mono {j k : Nat} {A : Around} (r : Room k A) (h : j ≤ k) : Room j A := ⟨r.hd, by have := r.dp; omega, by have := r.un; omega⟩
theorem Room.deeper {k : Nat} {A : Around} (r : Room (k + 1) A) (env : Env) : Room k (A.deeper env) :=
  ⟨r.hd, by have := r.dp; show A.depth + 1 + 3 * k + 5 < _; omega, by have := r.un; show A.units + 3 + 16 * k + 200 < _; omega⟩
theorem Room.depth {k : Nat} {A : Around} (r : Room k A) : A.depth < recursionLimit := by have := r.dp; omega
theorem Room.units {k : Nat} {A : Around} (r : Room k A) : A.units + 64 < cLine := by have := r.un; omega
/-! ### argument lists and displays -/
noncomputable def tNil : TA := fun _ H Q => Q [] H
noncomputable def tCons (ta : TE) (tr : TA) : TA := fun σ H Q => ta σ H fun x H1 => tr σ H1 fun xs H2 => Q (x :: xs) H2
section
variable {X : Cx} {e : Expr} {es : List Expr} {te : TE} {t : TA} {pos : Pos}
theorem pa_nil : PA X [] tNil := fun _ _ _ _ H Q I h => Calls.spliced_nil ⟨[], H, I, .nil, h⟩
theorem pa_cons (ha : PE X e te) (hr : PA X es t) (hs : starEach (e :: es) X.env = (false, eval e X.env) :: starEach es X.env := by rfl) : PA X (e :: es) (tCons te t) := by
  intro pos pins s σ H Q I h
  rw [hs]
  show wpAny _ _ (spliced ((false, eval e X.env) :: backTo pos (starEach es X.env))) _ _ s
  refine Calls.spliced_cons (thn (ha pins s σ H _ I h) fun u s1 ⟨x, H1, I1, r1, q1⟩ => ?_)
  exact thn (hr pos pins s1 σ H1 _ I1 q1) fun us s2 ⟨xs, H2, I2, r2, q2⟩ => ⟨x :: xs, H2, I2, .cons r1 r2, q2⟩

/-- a tuple, a list of written items -/
noncomputable def tTup (t : TA) : TE := fun σ H Q => t σ H fun xs H1 => xs.length ≤ sizeLine ∧ ∀ p, H1 p = none → Q (.ref p) (upd H1 p (.tup xs))
noncomputable def tLst (t : TA) : TE := fun σ H Q => t σ H fun xs H1 => xs.length ≤ sizeLine ∧ ∀ p, H1 p = none → Q (.ref p) (upd H1 p (.lst xs))
theorem pe_tup {x1} (h : PA X es t) : PE X (.Tuple es x1 pos) (tTup t) := by
  intro pins s σ H Q I hq
  refine wpAny_Tuple_spliced (thn (h pos pins s σ H _ I hq) fun us s1 ⟨xs, H1, I1, r, z, q⟩ => ⟨by rw [← r.length]; exact z, ?_⟩)
  have hf : H1 s1.heap.objs.size = none := I1.hok.fresh (Nat.le_refl _)
  refine ⟨.ref s1.heap.objs.size, upd H1 s1.heap.objs.size (.tup xs), I1.laid (t' := s1.toks) (fun b u e => Heap.get?_push_of_some _ e) (Nat.le_refl _) ?_, rfl, q _ hf⟩
  exact ⟨z, us, r, ⟨_, Heap.get?_push_size _ rfl, rfl, _, rfl⟩⟩
theorem pe_lst (h : PA X es t) : PE X (.List es pos) (tLst t) := by
  intro pins s σ H Q I hq
  refine wpAny_List_spliced (thn (h pos pins s σ H _ I hq) fun us s1 ⟨xs, H1, I1, r, z, q⟩ => ⟨by rw [← r.length]; exact z, ?_⟩)
  have hf : H1 s1.heap.objs.size = none := I1.hok.fresh (Nat.le_refl _)
  refine ⟨.ref s1.heap.objs.size, upd H1 s1.heap.objs.size (.lst xs), I1.laid (t' := s1.toks) (fun b u e => Heap.get?_push_of_some _ e) (Nat.le_refl _) ?_, rfl, q _ hf⟩
  exact ⟨z, us, 0, r, Heap.get?_push_size _ rfl⟩
end

/-! ### what a def promises -/
/-- a def's promise: the bound arguments in the parameters' order, the heap, the wanted end, the wanted exception -/
noncomputable abbrev Sp := List V → Hp → VK → XK → Prop
/-- how an exception lies behind a call (file 08 gives it): the callers' frames, abstract heap and state ahead of the call, the wish, the exception, the state -/
noncomputable abbrev CXT := List Env → Hp → Shared → XK → Value → Shared → Prop

/-- the state at a call -/
structure Env0 (P : Program) (w : World) (K : PySem.W.Frag) (mg : Str → Option Value) (base : Heap) (A : Around) (outer : List Env) (s : Shared) (H : Hp) : Prop where
  frames : A.frames = some outer
  mod : Mod K mg base
  bs : ∀ b o, base.get? b = some o → s.heap.get? b = some o ∧ H b = none
  bsz : base.objs.size ≤ s.heap.objs.size
  funs : s.heap.FunFrames base outer
  frf : ∀ b ∈ frs outer, H b = none
  hok : HOk P w H s.heap
  bare : AllBare s.gens
/-- a call's end -/
noncomputable def CE (outer : List Env) (P : Program) (w : World) (H : Hp) (s : Shared) (Q : VK) (u : Value) (s' : Shared) : Prop :=
  ∃ v H', s'.os = s.os ∧ AllBare s'.gens ∧ Un (frs outer) [] H H' s.heap s'.heap ∧ HOk P w H' s'.heap ∧ RelV v u ∧ Q v H'
noncomputable def CR (CX : CXT) (outer : List Env) (P : Program) (w : World) (H : Hp) (s : Shared) (Q : VK) (E : XK) (r : Result) (s' : Shared) : Prop :=
  match r with
  | .ok (.ret u) => CE outer P w H s Q u s'
  | .ok _ => False
  | .error e => CX outer H s E e s'
structure FnOk (P : Program) (w : World) (K : PySem.W.Frag) (mg : Str → Option Value) (base : Heap) (CX : CXT) (k : Nat) (f : Addr) (fd : FuncData) (ps : List Str) (sp : Sp) : Prop where
  len : ∀ vs H Q E, sp vs H Q E → vs.length = ps.length
  run : ∀ (A : Around) (outer : List Env) (s : Shared) (H : Hp) (args : Args) (us : List Value) (vs : List V) (Q : VK) (E : XK), Room k A → Env0 P w K mg base A outer s H → BindsTo s fd args (ps.zip us) → Vals vs us → sp vs H Q E →
    codeAny (model P w) A (.call (.ref f) args) (CR CX outer P w H s Q E) s
section
variable {X : Cx} {pins : List (Addr × Obj)} {σ : St} {H : Hp} {s s' : Shared}
/-- from a body: what a callee wants -/
theorem Inv.env0 (I : Inv X pins σ H s) : Env0 X.prog X.w X.K X.mg X.base X.A X.stack s H :=
  ⟨I.ok.frames, I.ok.mod, I.bs, Nat.le_trans I.ok.bsz I.sz, I.stack, I.stkFree, I.hok, I.bare⟩
/-- behind a call -/
theorem Inv.after {Q : VK} {u : Value} (I : Inv X pins σ H s) (h : CE X.stack X.prog X.w H s Q u s') : EP X pins σ Q u s' := by
  obtain ⟨v, H', os, bare, un, hok, r, q⟩ := h
  obtain ⟨hh, g, d, t, os'⟩ := s'
  obtain rfl : os' = s.os := os
  exact ⟨v, H', I.call (h' := hh) (g' := g) (d' := d) (t' := t) (ch := []) un hok bare (fun b z => absurd z (by simp)), r, q⟩
end

/-! ### calls -/
/-- f(..): the written arguments, then the defaults dvs; E: what is wanted of an exception -/
noncomputable def tCall (sp : Sp) (dvs : List V) (E : XK) (t : TA) : TE := fun σ H Q => t σ H fun vs H1 => sp (vs ++ dvs) H1 Q E
/-- how the parameters are bound: us the positional arguments, kw the keywords' values by name, ds the defaults that fill up -/
noncomputable def Binds (K : PySem.W.Frag) (fd : FuncData) (ps : List Str) (ds : List Value) : Prop :=
  ∀ (s : Shared) (us : List Value), K.In s.heap → (us ++ ds).length = ps.length → BindsTo s fd ⟨us, []⟩ (ps.zip (us ++ ds))
/-- every parameter is given -/
theorem Binds.all {K : PySem.W.Frag} {fd : FuncData} {ps : List Str} (h : ∀ us : List Value, us.length = ps.length → bindArgs fd ⟨us, []⟩ = pure (ps.zip us)) : Binds K fd ps [] := fun s us _ hl => by
  rw [List.append_nil] at hl ⊢
  exact .of_eq (h us hl)

/-- an exception of a callee reaches what this body wants of exceptions -/
noncomputable def Passes (CX : CXT) (X : Cx) (E : XK) : Prop := ∀ (pins : List (Addr × Obj)) (σ : St) (H : Hp) (s : Shared) (e : Value) (s' : Shared), Inv X pins σ H s → CX X.stack H s E e s' → X.xe e s'

section
variable {X : Cx} {CX : CXT} {k : Nat} {f C : Addr} {fd : FuncData} {ps : List Str} {sp : Sp} {dvs : List V} {ds : List Value} {E : XK} {x m : Str} {p pos apos : Pos} {e o : Expr} {es : List Expr} {ta : TE} {t : TA}

/-- the callee runs -/
theorem run_fn {pins : List (Addr × Obj)} {σ : St} {H : Hp} {s : Shared} {Q : VK} {us : List Value} {vs : List V} (F : FnOk X.prog X.w X.K X.mg X.base CX k f fd ps sp) (hr : Room k X.A) (hb : Binds X.K fd ps ds) (hd : Vals dvs ds) (hx : Passes CX X E)
    (I : Inv X pins σ H s) (r : Vals vs us) (h : sp (vs ++ dvs) H Q E) : wpAny (model X.prog X.w) X.A (call (.ref f) us) (EP X pins σ Q) X.xe s := by
  have r2 : Vals (vs ++ dvs) (us ++ ds) := r.append hd
  have hl : (us ++ ds).length = ps.length := by rw [← r2.length]; exact F.len _ _ _ _ h
  refine wpAny_call (codeAny_mono (F.run X.A X.stack s H ⟨us, []⟩ (us ++ ds) (vs ++ dvs) Q E hr I.env0 (hb s us I.kIn hl) r2 h) fun r s' hq => ?_)
  cases r with
  | error e => exact hx pins σ H s e s' I hq
  | ok fl =>
    cases fl with
    | ret u => exact I.after hq
    | next => exact False.elim hq
    | brk => exact False.elim hq
    | cont => exact False.elim hq

theorem pe_call (F : FnOk X.prog X.w X.K X.mg X.base CX k f fd ps sp) (hr : Room k X.A) (hg : Gl X x) (hm : X.mg x = some (.ref f)) (hk : PySem.W.keepIn X.K (.ref f) = true) (hb : Binds X.K fd ps ds) (hd : Vals dvs ds) (hx : Passes CX X E)
    (ha : PA X (e :: es) t) (hdb : (x == ("__debug__" : Str)) = false := by decide) (he : starEach (e :: es) X.env = (false, eval e X.env) :: starEach es X.env := by rfl) (hpl : (backTo pos (starEach es X.env)).any (·.1) = false := by rfl) :
    PE X (.Call (.Name x p) (e :: es) [] pos) (tCall sp dvs E t) := by
  intro pins s σ H Q I h
  refine wpAny_Call_Name_kw (ld_glob I hg hm ?_ hdb)
  refine PySem.W.callWith_K (h₀ := X.base) I.ok.mod.kin hk (thn (ha pos pins s σ H _ I h) fun us s1 ⟨vs, H1, I1, r, q⟩ => ⟨I1.kIn, ?_⟩) he hpl
  exact run_fn F hr hb hd hx I1 r q
theorem pe_call0 (F : FnOk X.prog X.w X.K X.mg X.base CX k f fd ps sp) (hr : Room k X.A) (hg : Gl X x) (hm : X.mg x = some (.ref f)) (hk : PySem.W.keepIn X.K (.ref f) = true) (hb : Binds X.K fd ps ds) (hd : Vals dvs ds) (hx : Passes CX X E)
    (hdb : (x == ("__debug__" : Str)) = false := by decide) : PE X (.Call (.Name x p) [] [] pos) (tCall sp dvs E tNil) := by
  intro pins s σ H Q I h
  refine wpAny_Call_Name_kw (ld_glob I hg hm ?_ hdb)
  exact PySem.W.callWith_K0 I.kIn hk (run_fn (us := []) F hr hb hd hx I .nil h)

end

/-! ### keywords -/
section
variable {X : Cx} {CX : CXT} {k : Nat} {f C : Addr} {fd : FuncData} {ps ks : List Str} {sp : Sp} {E : XK} {x m : Str} {p pos apos kpos : Pos} {e o : Expr} {es : List Expr} {kws : List Keyword} {te ta : TE} {t tk : TA} {nm : Option Str}
variable {g : List Value → List Value → List Value} {gV : List V → List V → List V}
end

/-! ### a def's body keeps its promise -/
/-- names: the parameters first -/
structure FnScope (N P : List Str) (sc : Scope) : Prop where
  kind : sc.kind = .function
  co : sc.isCoroutine = false
  gen : sc.isGenerator = false
  nd : N.Nodup
  pre : N.take P.length = P
  par : ∀ x ∈ P, sc.names.lookup x = some .local ∨ sc.names.lookup x = some .cell
  nofree : ∀ y ∈ sc.names, y.2 ≠ .free

theorem bindL_out {kindOf : Str → Option NameKind} {x : Str} : ∀ {binds : List (Str × Value)} {m : Str → Option Value}, (∀ v, (x, v) ∉ binds) → bindL kindOf binds m x = m x
  | [], _, _ => rfl
  | (n, v) :: r, m, h => by
    unfold bindL
    rw [bindL_out fun w hw => h w (List.mem_cons_of_mem _ hw)]
    split
    · have : x ≠ n := by rintro rfl; exact h v List.mem_cons_self
      simp [this]
    · rfl
theorem bindC_out {kindOf : Str → Option NameKind} {x : Str} : ∀ {binds : List (Str × Value)} {m : Str → Option Value}, (∀ v, (x, v) ∉ binds) → bindC kindOf binds m x = m x
  | [], _, _ => rfl
  | (n, v) :: r, m, h => by
    unfold bindC
    rw [bindC_out fun w hw => h w (List.mem_cons_of_mem _ hw)]
    split
    · rfl
    · have : x ≠ n := by rintro rfl; exact h v List.mem_cons_self
      simp [this]
theorem bindL_get {kindOf : Str → Option NameKind} {x : Str} {v : Value} : ∀ {P : List Str} {vs : List Value} {i : Nat} {m : Str → Option Value}, P.Nodup → P[i]? = some x → vs[i]? = some v → kindOf x = some .local →
    bindL kindOf (P.zip vs) m x = some v
  | [], _, _, _, _, h, _, _ => by simp at h
  | _ :: _, [], _, _, _, _, h, _ => by simp at h
  | p :: P, w :: vs, 0, m, nd, h1, h2, hk => by
    simp at h1 h2; subst h1; subst h2
    show bindL kindOf ((p, w) :: P.zip vs) m p = _
    unfold bindL
    rw [bindL_out fun v hv => (List.nodup_cons.mp nd).1 (List.of_mem_zip hv).1, if_pos hk]
    simp
  | p :: P, w :: vs, i + 1, m, nd, h1, h2, hk => by
    show bindL kindOf ((p, w) :: P.zip vs) m x = _
    unfold bindL
    exact bindL_get (i := i) (List.nodup_cons.mp nd).2 (by simpa using h1) (by simpa using h2) hk
theorem bindC_get {kindOf : Str → Option NameKind} {x : Str} {v : Value} : ∀ {P : List Str} {vs : List Value} {i : Nat} {m : Str → Option Value}, P.Nodup → P[i]? = some x → vs[i]? = some v → kindOf x ≠ some .local →
    bindC kindOf (P.zip vs) m x = some v
  | [], _, _, _, _, h, _, _ => by simp at h
  | _ :: _, [], _, _, _, _, h, _ => by simp at h
  | p :: P, w :: vs, 0, m, nd, h1, h2, hk => by
    simp at h1 h2; subst h1; subst h2
    show bindC kindOf ((p, w) :: P.zip vs) m p = _
    unfold bindC
    rw [bindC_out fun v hv => (List.nodup_cons.mp nd).1 (List.of_mem_zip hv).1, if_neg hk]
    simp
  | p :: P, w :: vs, i + 1, m, nd, h1, h2, hk => by
    show bindC kindOf ((p, w) :: P.zip vs) m x = _
    unfold bindC
    exact bindC_get (i := i) (List.nodup_cons.mp nd).2 (by simpa using h1) (by simpa using h2) hk

/-- the names' values at the entry -/
noncomputable def start (N : List Str) (vs : List V) : St := vs.map some ++ List.replicate (N.length - vs.length) none

/-- the context of a def's body, at its entry; an exception leaves the frame, then lies as CX says -/
noncomputable def cxOf (CX : CXT) (P : Program) (w : World) (K : PySem.W.Frag) (mg : Str → Option Value) (base : Heap) (N : List Str) (qual : Str) (scope : Scope) (f : Addr) (cd : Value) (A : Around) (outer : List Env) (s : Shared) (H : Hp) (E : XK) : Cx where
  prog := P
  w := w
  K := K
  mg := mg
  base := base
  A := A.deeper (envOfC qual scope s.heap.objs.size f cd)
  N := N
  s₀ := s
  H₀ := H
  env := envOfC qual scope s.heap.objs.size f cd
  outer := outer
  stack := envOfC qual scope s.heap.objs.size f cd :: outer
  ex := []
  calm := true
  fn := fun _ => true
  pn := []
  xe := fun e s' => wpAny (model P w) (A.deeper (envOfC qual scope s.heap.objs.size f cd)) (leaving (envOfC qual scope s.heap.objs.size f cd) e) (fun _ s'' => CX outer H s E e s'') (fun e' s'' => CX outer H s E e' s'') s'

theorem cell_has {sc : Scope} {n : Nat} {x : Str} (h : sc.names.lookup x = some .cell) : ∃ c, (cellsFrom n sc.names []).lookup x = some c := by
  have q := PySem.W.cellsFrom_some sc.names n [] (.inl h)
  exact Option.isSome_iff_exists.mp q

theorem inv_start {CX : CXT} {P : Program} {w : World} {K : PySem.W.Frag} {mg : Str → Option Value} {base : Heap} {N ps : List Str} {qual : Str} {scope : Scope} {f : Addr} {cd : Value} {A : Around} {outer : List Env} {s s1 : Shared} {H : Hp} {E : XK} {us : List Value} {vs : List V}
    (S : FnScope N ps scope) (hd : A.handled = none) (e0 : Env0 P w K mg base A outer s H) (hl : vs.length = ps.length) (r : Vals vs us)
    (x : InCallC s s.heap.objs.size (bindL (envOfC qual scope s.heap.objs.size f cd).kindOf (ps.zip us) fun _ => none) (cellsFrom (s.heap.objs.size + 1) scope.names []) (bindC (envOfC qual scope s.heap.objs.size f cd).kindOf (ps.zip us) fun _ => none) s1) :
    Inv (cxOf CX P w K mg base N qual scope f cd A outer s H E) [] (start N vs) H s1 := by
  have hpl : ps.length ≤ N.length := by have := congrArg List.length S.pre; rw [List.length_take] at this; omega
  obtain ⟨h1, tk, rfl, hk⟩ := x.done
  have noA : ∀ b : Addr, b ∉ (cxOf CX P w K mg base N qual scope f cd A outer s H E).ex := fun b z => absurd (show b ∈ ([] : List Addr) from z) (by simp)
  refine ⟨⟨e0.mod, S.kind, rfl, rfl, Nat.le_refl _, fun y z c h1 h2 => ?_, fun y hy => ?_, fun y c _ h => ?_, fun _ => hd, Around.frames_deeper e0.frames, .inr ⟨rfl, rfl⟩, fun b z => absurd z (noA b), e0.bs, e0.bsz, fun b _ _ => noA b, fun b z => absurd z (noA b), e0.funs, e0.frf⟩,
    rfl, e0.bare, Un.kept hk, ⟨_, x.toInCall.ns, fun i y v h1 h2 h3 => ?_⟩, fun y c h => ⟨_, x.cell y c h⟩, e0.hok.fresh (Nat.le_refl _), fun y c h => ?_, fun p hp => absurd (show p ∈ ([] : List (Addr × Obj)) from hp) (by simp), e0.hok.kept hk, ?_⟩
  · exact name_of_addr x.apart (PySem.mem_of_lookup h1) (PySem.mem_of_lookup h2)
  · have hy : scope.names.lookup y = some .cell ∨ scope.names.lookup y = some .free := hy
    rcases hy with hy | hy
    · exact cell_has hy
    · exact absurd rfl (S.nofree _ (PySem.mem_of_lookup hy))
  · exact Nat.le_of_lt (x.above y c (PySem.mem_of_lookup h))
  · have hi : i < vs.length := by
      unfold start at h2
      by_cases hi : i < vs.length
      · exact hi
      · rw [List.getElem?_append_right (by simpa using hi)] at h2
        rw [List.getElem?_replicate] at h2
        split at h2 <;> cases h2
    have ha : vs[i]? = some v := by
      unfold start at h2
      rw [List.getElem?_append_left (by simpa using hi), List.getElem?_map] at h2
      cases e : vs[i]? with
      | none => rw [e] at h2; cases h2
      | some a => rw [e] at h2; cases h2; rfl
    obtain ⟨u, hu, rv⟩ := r.get ha
    have hp : ps[i]? = some y := by
      rw [← S.pre, List.getElem?_take_of_lt (by omega)]; exact h1
    have ndP : ps.Nodup := by rw [← S.pre]; exact S.nd.sublist (List.take_sublist _ _)
    refine ⟨u, rv, ?_⟩
    rcases S.par y (List.mem_of_getElem? hp) with k | k
    · exact .inl ⟨k, bindL_get ndP hp hu k⟩
    · obtain ⟨c, e⟩ := cell_has (n := s.heap.objs.size + 1) k
      refine .inr ⟨.inl k, c, e, ?_⟩
      have q := x.cell y c e
      rw [bindC_get ndP hp hu (by show scope.names.lookup y ≠ _; rw [k]; decide)] at q
      exact q
  · exact e0.hok.fresh (Nat.le_of_lt (x.above y c (PySem.mem_of_lookup h)))
  · unfold start
    show _ = N.length
    rw [List.length_append, List.length_map, List.length_replicate]
    omega

/-- THE RULE: a def (or a method) of the text, by its body. The body's reading t is chosen for each entry; it is run at the parameters' values -/
theorem fn_of {CX : CXT} {P : Program} {w : World} {K : PySem.W.Frag} {mg : Str → Option Value} {base : Heap} {k : Nat} {f : Addr} {name qual : Str} {params : Arguments} {body : List Stmt} {scope : Scope} {dV kV doc pm cdv ct oc : Value} {an od : Option Addr}
    {osl : Array (Option Value)} {N ps : List Str} {sp : Sp} (lk : K.lookup f = some ⟨oc, od, .func (PySem.W.fnOf name qual params body scope dV kV doc pm an cdv ct), osl⟩) (hcd : PySem.W.codeIn K cdv qual = true) (S : FnScope N ps scope)
    (len : ∀ vs H Q E, sp vs H Q E → vs.length = ps.length)
    (hbody : ∀ (A : Around) (outer : List Env) (s : Shared) (H : Hp) (vs : List V) (Q : VK) (E : XK), Room k (A.deeper (envOfC qual scope s.heap.objs.size f cdv)) → sp vs H Q E →
      ∃ t, PSs (cxOf CX P w K mg base N qual scope f cdv A outer s H E) body t ∧ t { nx := fun _ H' => Q .non H', rt := Q } (start N vs) H) :
    FnOk P w K mg base CX (k + 1) f (PySem.W.fnOf name qual params body scope dV kV doc pm an cdv ct) ps sp := by
  refine ⟨len, fun A outer s H args us vs Q E hr e0 hb r hsp => ?_⟩
  have hl := len _ _ _ _ hsp
  have KX : K.In s.heap := e0.mod.kin.keeps fun b o e => (e0.bs b o e).1
  have lim : s.heap.NoLimit := e0.mod.nolimit.keeps fun b o e => (e0.bs b o e).1
  have hkind : ∀ y ∈ ps.zip us, scope.names.lookup y.1 = some .local ∨ (scope.names.lookup y.1 = some .cell ∧ ((cellsFrom (s.heap.objs.size + 1) scope.names []).lookup y.1).isSome = true) := fun ⟨n, v⟩ hy => by
    rcases S.par n (List.of_mem_zip hy).1 with q | q
    · exact .inl q
    · exact .inr ⟨q, PySem.W.cellsFrom_some _ _ _ (.inl q)⟩
  refine codeAny_call_function hr.depth (KX _ _ lk) rfl S.co S.gen rfl (PySem.W.codeRec_of KX hcd) (hb _ _ _ _ ?_)
  refine wpAny_newFunctionEnv_cells S.kind hkind fun env he s1 x => ?_
  subst he
  refine ⟨lim.keeps x.toInCall.keep, codeAny_func ?_⟩
  obtain ⟨t, ht, hq⟩ := hbody A outer s H vs Q E (hr.deeper _) hsp
  have I : Inv (cxOf CX P w K mg base N qual scope f cdv A outer s H E) [] (start N vs) H s1 := inv_start S hr.hd e0 hl r x
  refine wpAny_mono (ht [] s1 (start N vs) H _ I hq) (fun fl s' hs => ?_) fun e s' hs => hs
  have fin : ∀ {σ' : St} {H' : Hp} {v : V} {u : Value}, Inv (cxOf CX P w K mg base N qual scope f cdv A outer s H E) [] σ' H' s' → RelV v u → Q v H' → CE outer P w H s Q u s' :=
    fun {σ' H' v u} J rv q => ⟨v, H', J.os, J.bare, J.base, J.hok, rv, q⟩
  cases fl with
  | ret u =>
    obtain ⟨v, σ', H', J, rv, q⟩ := hs
    exact fin J rv q
  | next =>
    obtain ⟨σ', H', J, q⟩ := hs
    exact fin (v := V.non) (u := Value.none) J rfl q
  | brk =>
    obtain ⟨_, _, _, q⟩ := hs
    exact False.elim q
  | cont =>
    obtain ⟨_, _, _, q⟩ := hs
    exact False.elim q
end L2

namespace L2
open PySem PySem.Spec PyProof.Rows
section
variable {X : Cx} {x : Str} {p pos : Pos} {e : Expr} {es : List Expr} {t : TA} {id T : String} {r : List V → Hp → VK → Prop}

noncomputable def tCB (r : List V → Hp → VK → Prop) (t : TA) : TE := fun σ H Q => t σ H fun vs H1 => r vs H1 Q
/-- f(e, ..), f a built-in function -/
theorem pe_callB (hc : CallR X (.builtin id) r) (hg : Gl X x) (hm : X.mg x = none) (hv : bootBuiltins x = some (.builtin id)) (ha : PA X (e :: es) t) (hn : x ≠ "__name__" := by decide) (hdb : (x == ("__debug__" : Str)) = false := by decide)
    (he : starEach (e :: es) X.env = (false, eval e X.env) :: starEach es X.env := by rfl) (hpl : (backTo pos (starEach es X.env)).any (·.1) = false := by rfl) : PE X (.Call (.Name x p) (e :: es) [] pos) (tCB r t) := by
  intro pins s σ H Q I h
  refine wpAny_Call_Name_kw (ld_blt I hg hm hv ?_ hn hdb)
  exact PyProof.Rows.callWith_builtin1 (thn (ha pos pins s σ H _ I h) fun us s1 ⟨vs, H1, I1, r1, q1⟩ => hc pins s1 σ H1 vs us Q I1 r1 q1) he hpl
/-- T(e, ..), T a built-in type -/
theorem pe_callTy (hc : CallR X (.type T) r) (hg : Gl X x) (hm : X.mg x = none) (hv : bootBuiltins x = some (.type T)) (ha : PA X (e :: es) t) (hn : x ≠ "__name__" := by decide) (hdb : (x == ("__debug__" : Str)) = false := by decide)
    (he : starEach (e :: es) X.env = (false, eval e X.env) :: starEach es X.env := by rfl) (hpl : (backTo pos (starEach es X.env)).any (·.1) = false := by rfl) : PE X (.Call (.Name x p) (e :: es) [] pos) (tCB r t) := by
  intro pins s σ H Q I h
  refine wpAny_Call_Name_kw (ld_blt I hg hm hv ?_ hn hdb)
  exact PyProof.Rows.callWith_type1 (thn (ha pos pins s σ H _ I h) fun us s1 ⟨vs, H1, I1, r1, q1⟩ => hc pins s1 σ H1 vs us Q I1 r1 q1) he hpl
end
end L2

namespace HT
open PySem PyProof.Rows

section
open PySem.SeqAt
open PySem.AutoSeq1 (wpAny_loadPart')
open PySem.MeetsSeq PySem.MeetsSeq2 PySem.MeetsSeq3

end

section
variable {prog : Program} {w : World} {A : Around} {E : Value → Shared → Prop} {s : Shared}

/-- t + u, t not empty -/
theorem cat_tup {t b : Addr} {vs ws : List Value} {Q : Value → Shared → Prop} (ht : IsTup s.heap t vs.toArray) (hb : IsTup s.heap b ws.toArray) (hv : vs ≠ [])
    (h1 : ws = [] → Q (.ref t) s) (h2 : ws ≠ [] → Q (.ref s.heap.objs.size) { s with heap := s.heap.push { cls := .type "tuple", data := .seq (vs ++ ws).toArray } })
    (hsz : vs.length + ws.length ≤ sizeLine) : wpAny (model prog w) A (binaryOp .Add (.ref t) (.ref b)) Q E s := by
  obtain ⟨⟨cls, dd, data, sl⟩, ho, hc, n, hd⟩ := id ht
  obtain ⟨⟨cls2, dd2, data2, sl2⟩, ho2, hc2, n2, hd2⟩ := id hb
  simp only at hc hd hc2 hd2
  subst hc hd hc2 hd2
  have e : vs.toArray ++ ws.toArray = (vs ++ ws).toArray := by simp
  by_cases hw : ws = []
  · exact concat_meets ⟨_, ho, rfl⟩ ⟨_, ho2, rfl⟩ noFill_tuple_add seq_tuple_add PySem.F.slot_tuple_add PySem.F.entry_tuple_add (PySem.F.args_tuple_add_2 _ _)
      (tuple_addW1 t b vs.toArray ws.toArray n n2 dd dd2 sl sl2 (by simpa using hv) (by simp [hw])) ⟨ho, ho2, h1 hw⟩
  · refine concat_meets ⟨_, ho, rfl⟩ ⟨_, ho2, rfl⟩ noFill_tuple_add seq_tuple_add PySem.F.slot_tuple_add PySem.F.entry_tuple_add (PySem.F.args_tuple_add_2 _ _)
      (tuple_addW2 t b vs.toArray ws.toArray n n2 dd dd2 sl sl2 (by simpa using hv) (by simpa using hw) (by rw [List.size_toArray, List.size_toArray]; exact hsz)) ⟨ho, ho2, ?_⟩
    rw [e]
    exact h2 hw

/-! ### t[a:b], not the whole -/
/-- a slice's bound as a place among n (d where it is left out) -/
noncomputable def sIx (n d : Nat) : Option Int → Nat
  | none => d
  | some v => if v < 0 then (v + (n : Int)).toNat else min v.toNat n
theorem sIx_nat (n d k : Nat) : sIx n d (some (k : Int)) = min k n := by
  show (if (k : Int) < 0 then ((k : Int) + (n : Int)).toNat else min (k : Int).toNat n) = min k n
  rw [if_neg (by omega), Int.toNat_natCast]
theorem sIx_le (n d : Nat) (hd : d ≤ n) (o : Option Int) : sIx n d o ≤ n := by
  cases o with
  | none => exact hd
  | some v =>
    show (if v < 0 then (v + (n : Int)).toNat else min v.toNat n) ≤ n
    by_cases hv : v < 0
    · rw [if_pos hv]; omega
    · rw [if_neg hv]; exact Nat.min_le_right _ _
theorem clip_eq (v : Int) (n d : Nat) : (if v < 0 then max (v + (n : Int)) 0 else min v (n : Int)) = ((sIx n d (some v) : Nat) : Int) := by
  show (if v < 0 then max (v + (n : Int)) 0 else min v (n : Int)) = (((if v < 0 then (v + (n : Int)).toNat else min v.toNat n) : Nat) : Int)
  by_cases hv : v < 0
  · simp only [if_pos hv]; omega
  · simp only [if_neg hv]; omega
theorem adjust_gen (lo hi : Option Int) (n : Nat) : Builtin.Slice.sliceAdjust lo hi 1 (n : Int) = (((sIx n 0 lo : Nat) : Int), ((sIx n n hi : Nat) : Int)) := by
  have h1 : ¬ ((1 : Int) < 0) := by omega
  unfold Builtin.Slice.sliceAdjust
  simp only [h1, if_false]
  refine Prod.ext ?_ ?_
  · cases lo with
    | none => rfl
    | some v => exact clip_eq v n 0
  · cases hi with
    | none => rfl
    | some v => exact clip_eq v n n
theorem places_gen (i j : Nat) : Builtin.Slice.slicePlaces (i : Int) (j : Int) 1 = j - i := by
  unfold Builtin.Slice.slicePlaces
  have h1 : (1 : Int) > 0 := by omega
  simp only [h1, if_true, Int.ediv_one]
  split <;> omega
theorem slicePart_ {v : Value} {o : Option Int} {Q : Option Int → Shared → Prop} (p : IsPart v o) (h : Q o s) : wpAny (model prog w) A (Builtin.Slice.slicePartIndex v) Q E s := by
  cases p with
  | none => exact slicePart_none h
  | int i t => exact slicePart_int h
theorem sliceApplied_gen {sl : Addr} {vl vu : Value} {lo hi : Option Int} {n : Nat} {Q : Int × Int × Nat → Shared → Prop} (hs : s.heap.IsSliceOf sl vl vu .none) (pl : IsPart vl lo) (pu : IsPart vu hi)
    (h : Q (((sIx n 0 lo : Nat) : Int), 1, sIx n n hi - sIx n 0 lo) s) : wpAny (model prog w) A (Builtin.Slice.sliceApplied (.ref sl) (pure (n : Int))) Q E s := by
  obtain ⟨os, hos, hcs, hds⟩ := id hs
  unfold Builtin.Slice.sliceApplied Builtin.Slice.sliceFields
  refine wpAny_bind (wpAny_bind (wpAny_field hos hds (x := vl) rfl (wpAny_bind (wpAny_field hos hds (x := vu) rfl (wpAny_bind (wpAny_field hos hds (x := .none) rfl (wpAny_pure ?_)))))))
  refine wpAny_bind (slicePart_none ?_)
  show wpAny _ _ (if ((1 : Int) == 0) = true then _ else _) _ _ s
  rw [if_neg (by decide)]
  refine wpAny_bind (slicePart_ pl (wpAny_bind (slicePart_ pu (wpAny_bind (wpAny_pure ?_)))))
  show wpAny _ _ (match Builtin.Slice.sliceAdjust lo hi 1 (n : Int) with | (lo, hi) => pure (lo, (1 : Int), Builtin.Slice.slicePlaces lo hi 1)) _ _ s
  rw [adjust_gen lo hi n]
  show wpAny _ _ (pure (((sIx n 0 lo : Nat) : Int), (1 : Int), Builtin.Slice.slicePlaces ((sIx n 0 lo : Nat) : Int) ((sIx n n hi : Nat) : Int) 1)) _ _ s
  rw [places_gen]
  exact wpAny_pure h
theorem pick_gen (xs : Array Value) (i k : Nat) : ((List.range k).filterMap fun (m : Nat) => xs[((i : Int) + (m : Int) * 1).toNat]?).toArray = ((xs.toList.drop i).take k).toArray := by
  have e : (fun (m : Nat) => xs[((i : Int) + (m : Int) * 1).toNat]?) = fun m => xs[i + m]? := by
    funext m
    have : ((i : Int) + (m : Int) * 1).toNat = i + m := by omega
    rw [this]
  rw [e]
  have := pick_run xs i k
  rw [List.filterMap_map] at this
  have e2 : ((fun x => xs[x]?) ∘ fun x => i + x) = fun m => xs[i + m]? := rfl
  rw [e2] at this
  rw [this]

theorem getItem_tuple_cut {t sl : Addr} {items : Array Value} {vl vu : Value} {lo hi : Option Int} {Q : Value → Shared → Prop} (ht : IsTup s.heap t items) (hs : s.heap.IsSliceOf sl vl vu .none) (pl : IsPart vl lo) (pu : IsPart vu hi)
    (hw : ¬ (sIx items.size 0 lo = 0 ∧ sIx items.size items.size hi = items.size))
    (h : Q (.ref s.heap.objs.size) { s with heap := s.heap.push { cls := .type "tuple", data := .seq ((items.toList.drop (sIx items.size 0 lo)).take (sIx items.size items.size hi - sIx items.size 0 lo)).toArray } })
    (hsz : items.size ≤ sizeLine) : wpAny (model prog w) A (getItem (.ref t) (.ref sl)) Q E s := by
  have htake : sizeOk (.seq ((items.toList.drop (sIx items.size 0 lo)).take (sIx items.size items.size hi - sIx items.size 0 lo)).toArray) := by
    show ((items.toList.drop (sIx items.size 0 lo)).take (sIx items.size items.size hi - sIx items.size 0 lo)).toArray.size ≤ sizeLine
    rw [List.size_toArray, List.length_take, List.length_drop, Array.length_toList]
    omega
  have hj : sIx items.size items.size hi ≤ items.size := sIx_le _ _ (Nat.le_refl _) hi
  obtain ⟨os, hos, hcs, hds⟩ := id hs
  have hTs : s.TypeIs (.ref sl) "slice" := ⟨os, hos, hcs⟩
  unfold getItem
  try with_reducible refine wpAny_holding ?_
  first | refine wpAny_bind (wpAny_pure ?_) | skip
  refine wpAny_bind (wpAny_sequenceKey ht.typeIs (by decide) ?_)
  refine wpAny_bind (wpAny_callSpecial?_slot (name := Str.ofString "__getitem__") ht.typeIs PyProof.Rows.slot_tuple_getitem
    (wpAny_call_entry PyProof.Rows.slot_tuple_getitem ht.typeIs entry_tuple_getitem ?_ (args_tuple_getitem _ _)))
  show wpAny _ _ (Builtin.Tuple.tupleItemsOf (.ref t) >>= _) _ _ s
  refine wpAny_bind (tupleItemsOf_ ht ?_)
  refine wpAny_bind (wpAny_typeOf hTs ?_)
  rw [if_pos (by decide)]
  refine wpAny_bind (sliceApplied_gen hs pl pu ?_)
  have hno : ¬ ((((sIx items.size 0 lo : Nat) : Int) == 0 && (1 : Int) == 1 && (sIx items.size items.size hi - sIx items.size 0 lo) == items.size) = true) := by
    intro q
    rw [Bool.and_eq_true, Bool.and_eq_true] at q
    have q1 : ((sIx items.size 0 lo : Nat) : Int) = 0 := eq_of_beq q.1.1
    have q2 : sIx items.size items.size hi - sIx items.size 0 lo = items.size := eq_of_beq q.2
    exact hw ⟨by omega, by omega⟩
  show wpAny _ _ (if (((sIx items.size 0 lo : Nat) : Int) == 0 && (1 : Int) == 1 && (sIx items.size items.size hi - sIx items.size 0 lo) == items.size) = true then _ else _) _ _ s
  rw [if_neg hno, pick_gen]
  first
    | exact wpAny_bind (m := Builtin.Tuple.tupleExact _) (wpAny_newObj_type (wpAny_pure ⟨_, rfl, wpAny_pure h⟩) htake)
    | exact wpAny_bind (m := Builtin.Tuple.tupleExact _) (wpAny_newObj_type (wpAny_bind (wpAny_pure (wpAny_pure ⟨_, rfl, wpAny_pure h⟩))) htake)
    | exact wpAny_bind (wpAny_bind (m := Builtin.Tuple.tupleExact _) (wpAny_newObj_type (wpAny_pure (wpAny_pure ⟨_, rfl, wpAny_pure h⟩)) htake))
    | exact wpAny_bind (wpAny_bind (m := Builtin.Tuple.tupleExact _) (wpAny_newObj_type (wpAny_pure ⟨_, rfl, wpAny_pure h⟩) htake))
end
end HT

namespace L2
open PySem PySem.Spec PyProof.Rows

/-! ### the parts of a slice -/
noncomputable abbrev TO := St → Hp → (Option Int → Hp → Prop) → Prop
/-- a slice's part (left out, or an int) -/
noncomputable def PO (X : Cx) (e : Option Expr) (t : TO) : Prop :=
  ∀ (pins : List (Addr × Obj)) (s : Shared) (σ : St) (H : Hp) (Q : Option Int → Hp → Prop), Inv X pins σ H s → t σ H Q →
    wpAny (model X.prog X.w) X.A (evalPart e X.env) (fun u s' => ∃ o H', Inv X pins σ H' s' ∧ IsPart u o ∧ Q o H') X.xe s
noncomputable def tNoPart : TO := fun _ H Q => Q none H
noncomputable def tPart (t : TE) : TO := fun σ H Q => t σ H fun x H1 => ∃ i, x = .int i ∧ Q (some i) H1

section
variable {X : Cx} {e : Expr} {te : TE} {lo hi : Option Expr} {tl th : TO} {pos p2 : Pos}

theorem po_none : PO X none tNoPart := by
  intro pins s σ H Q I h
  rw [evalPart_none]
  exact wpAny_pure ⟨none, H, I, .none, h⟩
theorem po_some (h : PE X e te) : PO X (some e) (tPart te) := by
  intro pins s σ H Q I hw
  rw [evalPart_some]
  refine thn (h pins s σ H _ I hw) fun u s1 ⟨x, H1, I1, r1, q1⟩ => ?_
  obtain ⟨i, rfl, q⟩ := q1
  obtain ⟨t, rfl⟩ := r1
  exact ⟨some i, H1, I1, .int i t, q⟩

/-- what a slice of a value is, by values: the slice object stands at sl -/
noncomputable def SlR (X : Cx) (r : V → Option Int → Option Int → Hp → VK → Prop) : Prop :=
  ∀ (pins : List (Addr × Obj)) (s : Shared) (σ : St) (H : Hp) (x : V) (v vl vu : Value) (lo hi : Option Int) (sl : Addr) (Q : VK), Inv X pins σ H s → RelV x v → s.heap.IsSliceOf sl vl vu .none → IsPart vl lo → IsPart vu hi → r x lo hi H Q →
    ∃ T id, typeLookup (.type T) "__getitem__" = pure (some (.builtin id)) ∧ s.TypeIs v T ∧ wpAny (model X.prog X.w) X.A (getItem v (.ref sl)) (EP X pins σ Q) X.xe s
noncomputable def tSl (r : V → Option Int → Option Int → Hp → VK → Prop) (te : TE) (tl th : TO) : TE := fun σ H Q => te σ H fun x H1 => tl σ H1 fun l H2 => th σ H2 fun u H3 => r x l u H3 Q
/-- a[lo:hi], any a -/
theorem pe_slice {r : V → Option Int → Option Int → Hp → VK → Prop} (hr : SlR X r) (he : PE X e te) (hl : PO X lo tl) (hu : PO X hi th) : PE X (.Subscript e (.Slice lo hi none p2) pos) (tSl r te tl th) := by
  intro pins s σ H Q I h
  refine Subscript_ (thn (he pins s σ H _ I h) fun v s1 ⟨x, H1, I1, r1, q1⟩ => ?_)
  refine wpAny_Slice (thn (hl pins s1 σ H1 _ I1 q1) fun vl s2 ⟨l, H2, I2, pl, q2⟩ => thn (hu pins s2 σ H2 _ I2 q2) fun vu s3 ⟨u, H3, I3, pu, q3⟩ => ?_)
  rw [evalPart_none]
  refine wpAny_pure ?_
  have I4 : Inv X pins σ H3 { s3 with heap := s3.heap.push { cls := .type "slice", data := .fields #[vl, vu, .none] } } := I3.kept (t' := s3.toks) fun b ob q => Heap.get?_push_of_some _ q
  obtain ⟨T, id, hT, ht, hg⟩ := hr pins { s3 with heap := s3.heap.push { cls := .type "slice", data := .fields #[vl, vu, .none] } } σ H3 x v vl vu l u s3.heap.objs.size Q I4 r1 (Heap.IsSliceOf.new ..) pl pu q3
  show wpAny (model X.prog X.w) X.A (subscriptTail e (.Slice lo hi none p2) v (.ref s3.heap.objs.size)) (EP X pins σ Q) X.xe { s3 with heap := s3.heap.push { cls := .type "slice", data := .fields #[vl, vu, .none] } }
  exact tail_any (ops := [.ref s3.heap.objs.size, v]) ht hT hg (by with_unfolding_all rfl)

/-- the items of xs[lo:hi] -/
noncomputable def cutV (xs : List V) (lo hi : Option Int) : List V := (xs.drop (HT.sIx xs.length 0 lo)).take (HT.sIx xs.length xs.length hi - HT.sIx xs.length 0 lo)
theorem cutV_length (xs : List V) (lo hi : Option Int) : (cutV xs lo hi).length ≤ xs.length := by
  unfold cutV
  rw [List.length_take, List.length_drop]
  omega
/-- t[lo:hi], not the whole of it (the whole would be t itself) -/
noncomputable def rSlT (K : PySem.W.Frag) : V → Option Int → Option Int → Hp → VK → Prop := fun x lo hi H Q => ∃ a xs, x = .ref a ∧ SqT K H a xs ∧
  ¬ (HT.sIx xs.length 0 lo = 0 ∧ HT.sIx xs.length xs.length hi = xs.length) ∧ ∀ p, H p = none → Q (.ref p) (upd H p (.tup (cutV xs lo hi)))
theorem sl_tup : SlR X (rSlT X.K) := by
  intro pins s σ H x v vl vu lo hi sl Q I rx hs pl pu h
  obtain ⟨a, xs, rfl, hx, hw, q⟩ := h
  cases rx
  obtain ⟨its, r, ht, hz⟩ := I.tuple hx
  have hlen : its.toArray.size = xs.length := by rw [List.size_toArray]; exact r.length.symm
  refine ⟨"tuple", _, PyProof.Rows.slot_tuple_getitem.lookup, ht.typeIs, ?_⟩
  refine HT.getItem_tuple_cut ht hs pl pu (by rw [hlen]; exact hw) ?_ (by rw [hlen]; exact hz)
  rw [hlen]
  refine ⟨.ref s.heap.objs.size, _, I.laid (t' := s.toks) (o := .tup (cutV xs lo hi)) (fun b ob q => Heap.get?_push_of_some _ q) (Nat.le_refl _) ?_, rfl, q _ (I.hok.fresh (Nat.le_refl _))⟩
  exact ⟨Nat.le_trans (cutV_length xs lo hi) hz, _, (r.drop (HT.sIx xs.length 0 lo)).take (HT.sIx xs.length xs.length hi - HT.sIx xs.length 0 lo), IsTup.new _ _⟩

/-! ### t < u, t + u -/
/-- t + u, t not empty: u empty gives t itself -/
noncomputable def rCatT (K : PySem.W.Frag) : R2 := fun x y H Q => ∃ a b xs ys, x = .ref a ∧ y = .ref b ∧ SqT K H a xs ∧ SqT K H b ys ∧ xs ≠ [] ∧ xs.length + ys.length ≤ sizeLine ∧
  (ys = [] → Q (.ref a) H) ∧ (ys ≠ [] → ∀ p, H p = none → Q (.ref p) (upd H p (.tup (xs ++ ys))))
theorem Vals.nil_iff {xs : List V} {us : List Value} (r : Vals xs us) : us = [] ↔ xs = [] := by
  cases r with
  | nil => simp
  | cons _ _ => simp
theorem op_catT : OpR X (binaryOp .Add) (rCatT X.K) := by
  intro pins s σ H x y v u Q I rx ry h
  obtain ⟨a, b, xs, ys, rfl, rfl, ha, hb, hx, hz, q1, q2⟩ := h
  cases rx
  cases ry
  obtain ⟨its, r1, p1, _⟩ := I.tuple ha
  obtain ⟨its2, r2, p2, _⟩ := I.tuple hb
  refine HT.cat_tup p1 p2 (fun z => hx (r1.nil_iff.mp z)) (fun z => ⟨.ref a, H, I, rfl, q1 (r2.nil_iff.mp z)⟩) (fun z => ?_) (by rw [← r1.length, ← r2.length]; exact hz)
  refine ⟨.ref s.heap.objs.size, _, I.laid (t' := s.toks) (o := .tup (xs ++ ys)) (fun b ob q => Heap.get?_push_of_some _ q) (Nat.le_refl _) ?_, rfl, q2 (fun w => z (r2.nil_iff.mpr w)) _ (I.hok.fresh (Nat.le_refl _))⟩
  exact ⟨by rw [List.length_append]; exact hz, _, r1.append r2, IsTup.new _ _⟩
end
end L2

namespace L2
open PySem PySem.Spec PyProof.Rows

/-! ### places -/
/-- the place that an index of any sign means -/
noncomputable def ixN (n : Nat) (i : Int) : Option Nat := if 0 ≤ i then (if i < n then some i.toNat else none) else if -(n : Int) ≤ i then some (i + n).toNat else none
noncomputable def atI {α : Type} (xs : List α) (i : Int) : Option α := (ixN xs.length i).bind fun j => xs[j]?
theorem ixN_seq {n : Nat} {i : Int} {j : Nat} (h : ixN n i = some j) : seqIndex? i n = some j ∧ j < n ∧ -(n : Int) ≤ i ∧ i < n := by
  unfold ixN at h
  by_cases h0 : 0 ≤ i
  · rw [if_pos h0] at h
    by_cases h1 : i < n
    · rw [if_pos h1] at h
      have e : i.toNat = j := Option.some.inj h
      exact ⟨by rw [seqIndex_of h0 h1, e], by omega, by omega, h1⟩
    · rw [if_neg h1] at h; cases h
  · rw [if_neg h0] at h
    by_cases h1 : -(n : Int) ≤ i
    · rw [if_pos h1] at h
      have e : (i + n).toNat = j := Option.some.inj h
      exact ⟨by rw [seqIndex_neg (by omega) h1, e], by omega, h1, by omega⟩
    · rw [if_neg h1] at h; cases h
theorem atI_get {α : Type} {xs : List α} {i : Int} {v : α} (h : atI xs i = some v) : ∃ j, seqIndex? i xs.length = some j ∧ xs[j]? = some v ∧ j < xs.length ∧ -(xs.length : Int) ≤ i ∧ i < xs.length := by
  unfold atI at h
  cases e : ixN xs.length i with
  | none => rw [e] at h; cases h
  | some j =>
    rw [e] at h
    obtain ⟨h1, h2, h3, h4⟩ := ixN_seq e
    exact ⟨j, h1, h, h2, h3, h4⟩
theorem atI_last {α : Type} (xs : List α) (v : α) : atI (xs ++ [v]) (-1) = some v := by
  have hl : (xs ++ [v]).length = xs.length + 1 := by simp
  have e : ixN (xs ++ [v]).length (-1) = some xs.length := by
    unfold ixN
    rw [hl, if_neg (by decide), if_pos (by omega)]
    congr 1
    omega
  unfold atI
  rw [e]
  show (xs ++ [v])[xs.length]? = some v
  simp

/-! ### what may be subscripted -/
/-- what stands as an index of a plain subscript -/
noncomputable def PlainIx (b : Expr) : Prop := ∀ o i, subscripted b false o i = operate [o, i] (getItem o i)
/-- a subscript by values -/
noncomputable def IxR (X : Cx) (r : R2) : Prop :=
  ∀ (value slice : Expr) (pins : List (Addr × Obj)) (s : Shared) (σ : St) (H : Hp) (x y : V) (v u : Value) (Q : VK), Inv X pins σ H s → RelV x v → RelV y u → r x y H Q →
    subscripted slice false v u = operate [v, u] (getItem v u) → wpAny (model X.prog X.w) X.A (subscriptTail value slice v u) (EP X pins σ Q) X.xe s
/-- a call of a builtin's method by values: the receiver, the arguments -/
noncomputable def MtR (X : Cx) (id : String) (r : V → List V → Hp → VK → Prop) : Prop :=
  ∀ (pins : List (Addr × Obj)) (s : Shared) (σ : St) (H : Hp) (x : V) (xs : List V) (v : Value) (us : List Value) (Q : VK), Inv X pins σ H s → RelV x v → Vals xs us → r x xs H Q →
    wpAny (model X.prog X.w) X.A (call (.builtin id) (v :: us)) (EP X pins σ Q) X.xe s
section
variable {X : Cx} {a b : Expr} {ta tb : TE} {pos : Pos}
theorem IxR.or {r r' : R2} (h : IxR X r) (h' : IxR X r') : IxR X (fun x y H Q => r x y H Q ∨ r' x y H Q) := by
  intro value slice pins s σ H x y v u Q I rx ry q hs
  rcases q with q | q
  · exact h value slice pins s σ H x y v u Q I rx ry q hs
  · exact h' value slice pins s σ H x y v u Q I rx ry q hs
/-- a[b] -/
theorem pe_ix {r : R2} (hr : IxR X r) (ha : PE X a ta) (hb : PE X b tb) (hs : PlainIx b) : PE X (.Subscript a b pos) (tOp r ta tb) := by
  intro pins s σ H Q I h
  exact Subscript_ (binT ha hb I h fun v u s2 x y H2 I2 rx ry q => hr a b pins s2 σ H2 x y v u Q I2 rx ry q (hs _ _))

noncomputable def rIxL (K : PySem.W.Frag) : R2 := fun x y H Q => ∃ p xs i v, x = .ref p ∧ y = .int i ∧ SqL K H p xs ∧ atI xs i = some v ∧ Q v H
noncomputable def rIxT (K : PySem.W.Frag) : R2 := fun x y H Q => ∃ p xs i v, x = .ref p ∧ y = .int i ∧ SqT K H p xs ∧ atI xs i = some v ∧ Q v H
noncomputable def rIxS : R2 := fun x y H Q => ∃ z i c, x = .str z ∧ y = .int i ∧ z.length ≤ sizeLine ∧ atI z.cps.toList i = some c ∧ Q (.str ⟨#[c]⟩) H
theorem ix_list : IxR X (rIxL X.K) := by
  intro value slice pins s σ H x y v u Q I rx ry h hs
  obtain ⟨p, xs, i, z, rfl, rfl, hq, he, q⟩ := h
  cases rx
  obtain ⟨t, rfl⟩ := ry
  obtain ⟨its, r, pl, hz⟩ := I.list hq
  obtain ⟨j, h1, h2, h3, h4, h5⟩ := atI_get he
  obtain ⟨w, ew, rw'⟩ := r.get h2
  have hl := r.length
  have hn := line63
  have fin : EP X pins σ Q w s := ⟨z, H, I, rw', q⟩
  by_cases h0 : 0 ≤ i
  · have hj : i.toNat = j := by
      rw [seqIndex_of h0 h5] at h1
      exact Option.some.inj h1
    exact item_listR pl.isList h0 (by omega) (by rw [hj]; simpa using ew) fin hs
  · have hj : (i + (its.toArray.size : Int)).toNat = j := by
      rw [seqIndex_neg (by omega) h4] at h1
      rw [List.size_toArray, ← hl]
      exact Option.some.inj h1
    exact subscriptTail_builtinR (x := w) pl.isList.typeIs slot_list_getitem.lookup
      (wpAny_getItem_list_neg (Q := fun r s' => r = w ∧ EP X pins σ Q r s') pl.isList (by omega) (by rw [List.size_toArray] <;> omega) (by omega) (by rw [hj]; simpa using ew) ⟨rfl, fin⟩) hs
theorem ix_tup : IxR X (rIxT X.K) := by
  intro value slice pins s σ H x y v u Q I rx ry h hs
  obtain ⟨p, xs, i, z, rfl, rfl, hq, he, q⟩ := h
  cases rx
  obtain ⟨t, rfl⟩ := ry
  obtain ⟨its, r, pl, hz⟩ := I.tuple hq
  obtain ⟨j, h1, h2, h3, h4, h5⟩ := atI_get he
  obtain ⟨w, ew, rw'⟩ := r.get h2
  have hl := r.length
  have hn := line63
  have fin : EP X pins σ Q w s := ⟨z, H, I, rw', q⟩
  exact subscriptTail_builtinR (x := w) pl.typeIs slot_tuple_getitem.lookup
    (getItem_tuple (j := j) (Q := fun r s' => r = w ∧ EP X pins σ Q r s') pl (by omega) (by omega) (by rw [List.size_toArray, ← hl]; exact h1) (by simpa using ew) ⟨rfl, fin⟩) hs
theorem ix_str : IxR X rIxS := by
  intro value slice pins s σ H x y v u Q I rx ry h hs
  obtain ⟨z, i, c, rfl, rfl, hz, he, q⟩ := h
  obtain ⟨t, rfl⟩ := rx
  obtain ⟨t', rfl⟩ := ry
  obtain ⟨j, h1, h2, h3, h4, h5⟩ := atI_get he
  have hl : z.cps.toList.length = z.length := by simp [Str.length]
  rw [hl] at h1 h4 h5
  have hn := line63
  exact tail_any (typeIs_str s z t) slot_str_getitem.lookup (getItem_str (c := c) (by
    have e1 : decide (i < -(2 ^ 63 : Int)) = false := decide_eq_false (by omega)
    have e2 : decide (i ≥ 2 ^ 63) = false := decide_eq_false (by omega)
    rw [e1, e2, Bool.or_false]) (by rw [h1]; simpa using h2) ⟨.str ⟨#[c]⟩, H, I.tok _, ⟨_, rfl⟩, q⟩) hs
/-! ### xs[i] = v, any sign -/
/-- the list's object behind a store -/
theorem mapSeq_set (its : List Value) (n j : Nat) (u : Value) : Obj.mapSeq (·.setIfInBounds j u) { cls := .type "list", data := .seq its.toArray n } = { cls := .type "list", data := .seq (its.set j u).toArray n } := by
  simp [Obj.mapSeq]
theorem Inv.lst {pins : List (Addr × Obj)} {σ : St} {H : Hp} {s : Shared} {p : Addr} {xs : List V} (I : Inv X pins σ H s) (h : H p = some (.lst xs)) :
    ∃ (its : List Value) (n : Nat), Vals xs its ∧ s.heap.get? p = some { cls := .type "list", data := .seq its.toArray n } ∧ xs.length ≤ sizeLine := by
  obtain ⟨z, its, n, r, e⟩ := I.hok p _ h
  exact ⟨its, n, r, e, z⟩
/-- the list at p is written by an update of its object -/
theorem Inv.lstUpd {pins : List (Addr × Obj)} {σ : St} {H : Hp} {s : Shared} {p : Addr} {xs ys : List V} {its its' : List Value} {n n' : Nat} {f : Obj → Obj} (I : Inv X pins σ H s) (h : H p = some (.lst xs))
    (ho : s.heap.get? p = some { cls := .type "list", data := .seq its.toArray n }) (hf : f { cls := .type "list", data := .seq its.toArray n } = { cls := .type "list", data := .seq its'.toArray n' }) (r : Vals ys its') (hz : ys.length ≤ sizeLine) (t : Nat) :
    Inv X pins σ (upd H p (.lst ys)) { s with heap := s.heap.update p f, toks := t } := by
  have e : (s.heap.update p f).get? p = some { cls := .type "list", data := .seq its'.toArray n' } := by
    rw [Heap.get?_update_self f ho (by rw [hf] <;> rfl), hf]
  refine I.write (x := p) (e := p) (by rw [h]; trivial) (.inl rfl) (fun b u hb q => (Heap.get?_update_other _ _ (Ne.symm hb)).trans q) ⟨_, e⟩ ?_
  exact ⟨hz, its', n', r, e⟩
noncomputable def rSetL : V → V → V → Hp → (Hp → Prop) → Prop := fun o i v H Q => ∃ p xs k j, o = .ref p ∧ i = .int k ∧ H p = some (.lst xs) ∧ ixN xs.length k = some j ∧ Q (upd H p (.lst (xs.set j v)))
theorem set_list : PSet X rSetL := by
  intro pins s σ H o i v ov iv u Q I ro ri rv h
  obtain ⟨p, xs, k, j, rfl, rfl, hp, hj, q⟩ := h
  cases ro
  obtain ⟨t, rfl⟩ := ri
  obtain ⟨its, n, r, ho, hz⟩ := I.lst hp
  obtain ⟨h1, h2, h3, h4⟩ := ixN_seq hj
  have hl := r.length
  have hn := line63
  have I' : Inv X pins σ (upd H p (.lst (xs.set j v))) { s with heap := s.heap.update p (Obj.mapSeq (·.setIfInBounds j u)) } :=
    I.lstUpd hp ho (mapSeq_set its n j u) (r.set rv j) (by rw [List.length_set]; exact hz) s.toks
  by_cases h0 : 0 ≤ k
  · have hk : k.toNat = j := by
      rw [seqIndex_of h0 h4] at h1
      exact Option.some.inj h1
    exact PySem.W.ki_setAt ho h0 (by omega) (by rw [List.size_toArray, ← hl]; exact h4) (by rw [hk]; exact ⟨_, I', q⟩)
  · have hk : (k + (its.toArray.size : Int)).toNat = j := by
      rw [seqIndex_neg (by omega) h3] at h1
      rw [List.size_toArray, ← hl]
      exact Option.some.inj h1
    exact PySem.W.ki_setBack ho (by omega) (by rw [List.size_toArray, ← hl]; exact h3) (by omega) (by rw [hk]; exact ⟨_, I', q⟩)

/-! ### slices -/
theorem slice_bounds (lo hi : Option Int) (n : Nat) : (sliceBounds lo hi none n).1 = ((HT.sIx n 0 lo : Nat) : Int) ∧ (sliceBounds lo hi none n).2.1 = ((HT.sIx n n hi : Nat) : Int) ∧ (sliceBounds lo hi none n).2.2 = 1 := by
  refine ⟨?_, ?_, rfl⟩
  · cases lo with
    | none => simp [sliceBounds, HT.sIx]
    | some i =>
      simp only [sliceBounds, HT.sIx, Option.getD_none, show (1 : Int) > 0 by decide, if_true]
      by_cases h : i < 0
      · simp only [h, if_true] <;> omega
      · simp only [h, if_false] <;> omega
  · cases hi with
    | none => simp [sliceBounds, HT.sIx]
    | some i =>
      simp only [sliceBounds, HT.sIx, Option.getD_none, show (1 : Int) > 0 by decide, if_true]
      by_cases h : i < 0
      · simp only [h, if_true] <;> omega
      · simp only [h, if_false] <;> omega
theorem slicePick_cut (its : List Value) (lo hi : Option Int) : slicePick its.toArray lo hi none = ((its.drop (HT.sIx its.length 0 lo)).take (HT.sIx its.length its.length hi - HT.sIx its.length 0 lo)).toArray := by
  obtain ⟨h1, h2, h3⟩ := slice_bounds lo hi its.toArray.size
  unfold slicePick
  rw [h1, h2, h3]
  simp only [sliceRange_one, pick_run, List.size_toArray] <;> rfl
/-- xs[lo:hi] of a list: a new list -/
noncomputable def rSlL (K : PySem.W.Frag) : V → Option Int → Option Int → Hp → VK → Prop := fun x lo hi H Q => ∃ a xs, x = .ref a ∧ SqL K H a xs ∧ ∀ p, H p = none → Q (.ref p) (upd H p (.lst (cutV xs lo hi)))
theorem sl_list : SlR X (rSlL X.K) := by
  intro pins s σ H x v vl vu lo hi sl Q I rx hs pl pu h
  obtain ⟨a, xs, rfl, hx, q⟩ := h
  cases rx
  obtain ⟨its, r, ht, hz⟩ := I.list hx
  have hlen := r.length
  refine ⟨"list", _, slot_list_getitem.lookup, ht.isList.typeIs, ?_⟩
  refine wpAny_getItem_list_slice ht.isList hs pl pu .none (by simp) ?_ (by rw [List.size_toArray] <;> omega)
  rw [slicePick_cut, ← hlen]
  refine ⟨.ref s.heap.objs.size, _, I.laid (t' := s.toks) (o := .lst (cutV xs lo hi)) (fun b ob q => Heap.get?_push_of_some _ q) (Nat.le_refl _) ?_, rfl, q _ (I.hok.fresh (Nat.le_refl _))⟩
  exact ⟨Nat.le_trans (cutV_length xs lo hi) hz, _, 0, (r.drop (HT.sIx xs.length 0 lo)).take (HT.sIx xs.length xs.length hi - HT.sIx xs.length 0 lo), Heap.get?_push_size _ rfl⟩

/-! ### in, not in: flat items -/
/-! ### len, list(x), tuple(x) of any list or tuple that is read -/
theorem call_list_of : CallR X (.type "list") (fun xs H Q => ∃ p ys, xs = [.ref p] ∧ (SqL X.K H p ys ∨ SqT X.K H p ys) ∧ ∀ l, H l = none → Q (.ref l) (upd H l (.lst ys))) := by
  intro pins s σ H xs us Q I r h
  obtain ⟨p, ys, rfl, hq, q⟩ := h
  obtain ⟨u, rfl, rx⟩ := vals1 r
  cases rx
  have fin : ∀ (its : List Value), Vals ys its → ys.length ≤ sizeLine → ∀ (h' : Heap) (c' : Nat), (∀ b o', s.heap.get? b = some o' → h'.get? b = some o') →
      h'.get? s.heap.objs.size = some { cls := .type "list", dict := none, data := .seq its.toArray c', slots := #[] } → EP X pins σ Q (.ref s.heap.objs.size) { s with heap := h' } := fun its r' hz h' c' kp e =>
    ⟨.ref s.heap.objs.size, _, I.laid (t' := s.toks) kp (Nat.le_refl _) (show ObjOk X.prog X.w _ h' _ (.lst ys) from ⟨hz, its, c', r', e⟩), rfl, q _ (I.hok.fresh (Nat.le_refl _))⟩
  rcases hq with hq | hq
  · obtain ⟨its, r', pl, hz⟩ := I.list hq
    have hlen := r'.length
    obtain ⟨o, ho, hc, n, hd⟩ := pl.isList
    exact call_list_seq p (.inl rfl) ho hc hd (fun h' c' kp e => fin its r' hz h' c' kp e) (by simp only [List.size_toArray] <;> omega)
  · obtain ⟨its, r', pl, hz⟩ := I.tuple hq
    have hlen := r'.length
    obtain ⟨o, ho, hc, n, hd⟩ := pl
    exact call_list_seq p (.inr rfl) ho hc hd (fun h' c' kp e => fin its r' hz h' c' kp e) (by simp only [List.size_toArray] <;> omega)
theorem call_tuple_of : CallR X (.type "tuple") (fun xs H Q => ∃ p ys, xs = [.ref p] ∧ ((SqL X.K H p ys ∧ ∀ l, H l = none → Q (.ref l) (upd H l (.tup ys))) ∨ (SqT X.K H p ys ∧ Q (.ref p) H))) := by
  intro pins s σ H xs us Q I r h
  obtain ⟨p, ys, rfl, h⟩ := h
  obtain ⟨u, rfl, rx⟩ := vals1 r
  cases rx
  rcases h with ⟨hq, q⟩ | ⟨hq, q⟩
  · obtain ⟨its, r', pl, hz⟩ := I.list hq
    have hlen := r'.length
    refine call_tuple_list pl.isList (fun h' kp => ?_) (by simp only [List.size_toArray] <;> omega)
    have I1 : Inv X pins σ H { s with heap := h' } := I.kept (t' := s.toks) kp
    have I2 : Inv X pins σ (upd H h'.objs.size (.tup ys)) { s with heap := h'.push { cls := .type "tuple", data := .seq its.toArray } } :=
      I1.laid (t' := s.toks) (fun b o e => Heap.get?_push_of_some _ e) (Nat.le_refl _) (show ObjOk X.prog X.w _ _ _ (.tup ys) from ⟨hz, its, r', IsTup.new _ _⟩)
    exact ⟨.ref h'.objs.size, _, I2, rfl, q _ (I1.hok.fresh (Nat.le_refl _))⟩
  · obtain ⟨its, r', pl, hz⟩ := I.tuple hq
    exact call_tuple_same pl ⟨.ref p, H, I, rfl, q⟩

/-! ### the call of a builtin's method: o.m(..) -/
/-- the value is of that builtin type -/
noncomputable def tyV (K : PySem.W.Frag) (T : String) (x : V) (H : Hp) : Prop := match x with
  | .str _ => T = "str"
  | .int _ => T = "int"
  | .ref p => (T = "list" ∧ ∃ xs, SqL K H p xs) ∨ (T = "tuple" ∧ ∃ o, K.lookup p = some o ∧ o.cls = .type "tuple" ∧ o.dict = none) ∨
      (T = "dict" ∧ ((∃ kvs, H p = some (.dK kvs)) ∨ ∃ kvs, H p = some (.dT kvs))) ∨ (T = "set" ∧ ∃ S n, H p = some (.set S n))
  | _ => False
theorem tyV_is {pins : List (Addr × Obj)} {σ : St} {H : Hp} {s : Shared} {T : String} {x : V} {v : Value} (I : Inv X pins σ H s) (r : RelV x v) (ty : tyV X.K T x H) :
    s.TypeIs v T ∧ ∀ a, v = .ref a → ∃ ob, s.heap.get? a = some ob ∧ ob.dict = none := by
  cases x with
  | str z =>
    obtain ⟨t, rfl⟩ := r
    cases (show T = "str" from ty)
    exact ⟨typeIs_str s z t, fun _ e => nomatch e⟩
  | int i =>
    obtain ⟨t, rfl⟩ := r
    cases (show T = "int" from ty)
    exact ⟨typeIs_int s i t, fun _ e => nomatch e⟩
  | ref p =>
    cases r
    rcases ty with ⟨rfl, xs, hq⟩ | ⟨rfl, o, hk, hc, hd⟩ | ⟨rfl, hk⟩ | ⟨rfl, S, n, hk⟩
    · obtain ⟨its, _, pl, _⟩ := I.list hq
      refine ⟨pl.isList.typeIs, fun a e => ?_⟩
      cases e
      obtain ⟨o, n, e, c, hd, _⟩ := pl
      exact ⟨o, e, hd⟩
    · refine ⟨⟨o, I.kIn p o hk, hc⟩, fun a e => ?_⟩
      cases e
      exact ⟨o, I.kIn _ o hk, hd⟩
    · have z : ∃ o, s.heap.get? p = some o ∧ o.ExactDict := by
        rcases hk with ⟨kvs, hk⟩ | ⟨kvs, hk⟩
        · obtain ⟨_, _, _, _, o, _, _, e, ex, _⟩ := I.hok p _ hk
          exact ⟨o, e, ex⟩
        · obtain ⟨_, _, _, _, o, _, _, e, ex, _⟩ := I.hok p _ hk
          exact ⟨o, e, ex⟩
      obtain ⟨o, e, ex⟩ := z
      refine ⟨⟨o, e, ex.1⟩, fun a e2 => ?_⟩
      cases e2
      exact ⟨o, e, ex.2.1⟩
    · obtain ⟨o, _, _, _, e, ex, _⟩ := I.hok p _ hk
      refine ⟨⟨o, e, ex.1⟩, fun a e2 => ?_⟩
      cases e2
      exact ⟨o, e, ex.2.1⟩
  | _ => exact False.elim ty
noncomputable def tBM (K : PySem.W.Frag) (T : String) (r : V → List V → Hp → VK → Prop) (to : TE) (t : TA) : TE := fun σ H Q => to σ H fun x H1 => tyV K T x H1 ∧ t σ H1 fun xs H2 => r x xs H2 Q
variable {o e : Expr} {es : List Expr} {to : TE} {t : TA} {name : Str} {apos cpos : Pos} {T id : String} {r : V → List V → Hp → VK → Prop}
theorem pe_bm (pa : PlainAttrs T) (slot : Slot T name id) (hty : typeOf (.builtin id) = pure (.type "method_descriptor")) (hm : MtR X id r) (ho : PE X o to) (ha : PA X (e :: es) t)
    (hbase : attributeBase o name X.env (eval o X.env) = eval o X.env := by rfl)
    (hfew : ((backTo cpos (starEach (e :: es) X.env)).all (fun x => !x.1) && (backToKw cpos (keywordEach [] X.env)).all (fun x => x.1.isSome)
      && decide ((e :: es).length + ([] : List Keyword).length + (if ([] : List Keyword).isEmpty then 0 else 1) < 30)) = true := by rfl)
    (hline : (apos.endLine == cpos.line) = true := by rfl) (hs : starEach (e :: es) X.env = (false, eval e X.env) :: starEach es X.env := by rfl) (hplain : (backTo cpos (starEach es X.env)).any (·.1) = false := by rfl) :
    PE X (.Call (.Attribute o name apos) (e :: es) [] cpos) (tBM X.K T r to t) := by
  intro pins s σ H Q I h
  refine wpAny_Call_method_late hbase hfew hline rfl (thn (ho pins s σ H _ I h) fun v s1 ⟨x, H1, I1, r1, ty, q1⟩ => ?_)
  obtain ⟨h1, h2⟩ := tyV_is I1 r1 ty
  refine ⟨T, id, pa, slot, hty, h1, h2, ?_⟩
  have hA := ha cpos pins s1 σ H1 _ I1 q1
  rw [hs] at hA ⊢
  refine Calls.callWith_builtin (by show (false || (backTo cpos (starEach es X.env)).any (·.1)) = false; rw [hplain] <;> rfl) (Calls.evalArgs_plain ?_)
  exact thn hA fun us s2 ⟨vs, H2, I2, r2, q2⟩ => hm pins s2 σ H2 x vs v us Q I2 r1 r2 q2
/- xs.append(e), list.index on a module's tuple .. are MtR facts of 06m -/
end
end L2

namespace L2
open PySem PySem.Spec PyProof.Rows

noncomputable def MtM (X : Cx) (id : String) (r : V → List V → Hp → VK → Prop) : Prop :=
  ∀ (pins : List (Addr × Obj)) (s : Shared) (σ : St) (H : Hp) (x : V) (xs : List V) (v : Value) (us : List Value) (Q : VK), Inv X pins σ H s → RelV x v → Vals xs us → r x xs H Q →
    wpAny (model X.prog X.w) X.A (call (.builtin id) (v :: us)) (EP X pins σ Q) X.xe s

/-! ### lists of values -/
theorem Vals.one : ∀ {x : V} {us : List Value}, Vals [x] us → ∃ u, us = [u] ∧ RelV x u
  | _, _, .cons r .nil => ⟨_, rfl, r⟩
theorem Vals.two : ∀ {x y : V} {us : List Value}, Vals [x, y] us → ∃ u v, us = [u, v] ∧ RelV x u ∧ RelV y v
  | _, _, _, .cons r (.cons q .nil) => ⟨_, _, rfl, r, q⟩
section
variable {X : Cx} {pins : List (Addr × Obj)} {σ : St} {H : Hp} {s : Shared} {l b : Addr} {xs ys zs : List V}

/-! ### the two steps: a tracked list is rewritten, a new list is laid -/
theorem Inv.lset {its its' : List Value} {n : Nat} {f : Array Value → Array Value} {t' : Nat} (I : Inv X pins σ H s) (hH : H l = some (.lst xs))
    (e : s.heap.get? l = some { cls := .type "list", data := .seq its.toArray n }) (hf : f its.toArray = its'.toArray) (hv : Vals ys its') (hz : ys.length ≤ sizeLine) :
    Inv X pins σ (upd H l (.lst ys)) { s with heap := s.heap.update l (Obj.mapSeq f), toks := t' } := by
  have q := PySem.IsL.update e f
  rw [hf] at q
  refine I.write (x := l) (e := l) (by rw [hH]; exact trivial) (.inl rfl) (fun b' u hb hu => (Heap.get?_update_other s.heap (Obj.mapSeq f) (Ne.symm hb)).trans hu) ⟨_, q⟩ ?_
  exact ⟨hz, its', _, hv, q⟩
theorem Inv.lnew {its : List Value} {t' : Nat} (I : Inv X pins σ H s) (hv : Vals ys its) (hz : ys.length ≤ sizeLine) :
    Inv X pins σ (upd H s.heap.objs.size (.lst ys)) { s with heap := s.heap.push { cls := .type "list", data := .seq its.toArray }, toks := t' } :=
  I.laid (fun _ _ q => Heap.get?_push_of_some _ q) (Nat.le_refl _) ⟨hz, its, 0, hv, Heap.get?_push_size _ rfl⟩
theorem Inv.fresh (I : Inv X pins σ H s) : H s.heap.objs.size = none := I.hok.fresh (Nat.le_refl _)
theorem Inv.lstM (I : Inv X pins σ H s) (hH : H l = some (.lst xs)) : xs.length ≤ sizeLine ∧ ∃ (its : List Value) (n : Nat), Vals xs its ∧ xs.length = its.length ∧ s.heap.get? l = some { cls := .type "list", data := .seq its.toArray n } := by
  obtain ⟨z, its, n, r, e⟩ := I.hok l _ hH
  exact ⟨z, its, n, r, r.length, e⟩

end

section
variable {X : Cx}

/-! ### methods -/
noncomputable def rAppend : V → List V → Hp → VK → Prop := fun x vs H Q => ∃ l xs y, x = .ref l ∧ vs = [y] ∧ H l = some (.lst xs) ∧ xs.length < sizeLine ∧ Q .non (upd H l (.lst (xs ++ [y])))
theorem mt_append : MtM X "list.append" rAppend := by
  intro pins s σ H x vs v us Q I rx rv h
  obtain ⟨l, xs, y, rfl, rfl, hH, hz, q⟩ := h
  cases rx
  obtain ⟨u, rfl, ru⟩ := rv.one
  obtain ⟨z, its, n, r, hl, e⟩ := I.lstM hH
  refine call_meets F.slot_list_append ⟨_, e, rfl⟩ F.entry_list_append (F.args_list_append_2 _ _) (PySem.list_append l its.toArray n u (by rw [List.size_toArray]; omega)) ⟨e, ?_⟩
  refine ⟨.non, _, I.lset (its' := its ++ [u]) hH e (by simp) (r.append (.cons ru .nil)) ?_, rfl, q⟩
  rw [List.length_append, List.length_singleton]
  omega

/-! ### list + list, list += list, list * int -/
noncomputable def rCat : R2 := fun x y H Q => ∃ l b xs zs, x = .ref l ∧ y = .ref b ∧ H l = some (.lst xs) ∧ H b = some (.lst zs) ∧ xs.length + zs.length ≤ sizeLine ∧ ∀ p, H p = none → Q (.ref p) (upd H p (.lst (xs ++ zs)))
theorem op_cat : OpR X (binaryOp .Add) rCat := by
  intro pins s σ H x y v u Q I rx ry h
  obtain ⟨l, b, xs, zs, rfl, rfl, hH, hB, hz, q⟩ := h
  cases rx
  cases ry
  obtain ⟨z, its, n, r, hl, e⟩ := I.lstM hH
  obtain ⟨z2, its2, n2, r2, hl2, e2⟩ := I.lstM hB
  refine PySem.P.add_list e e2 ?_ (by rw [List.size_toArray, List.size_toArray]; omega)
  have ea : its.toArray ++ its2.toArray = (its ++ its2).toArray := by simp
  rw [ea]
  exact ⟨.ref _, _, I.lnew (t' := s.toks) (r.append r2) (by rw [List.length_append]; omega), rfl, q _ I.fresh⟩
/-! ### del xs[i] -/
end

/-! ### xs[a:b] = ys -/
section
variable {prog : Program} {w : World} {A : Around} {E : Value → Shared → Prop} {s : Shared}
set_option maxRecDepth 100000 in
end

section
variable {X : Cx}
end
end L2

namespace L2
open PySem PySem.Spec PyProof.Rows

/-! ### lists of pairs as tables -/
section
variable {κ : Type} [DecidableEq κ]
noncomputable def valV (kvs : List (κ × V)) (k : κ) : Option V := (kvs.find? fun kv => decide (kv.1 = k)).map (·.2)
/-- in its place, or at the end -/
noncomputable def putK (kvs : List (κ × V)) (k : κ) (v : V) : List (κ × V) :=
  if (kvs.any fun kv => decide (kv.1 = k)) = true then kvs.map (fun kv => if kv.1 = k then (kv.1, v) else kv) else kvs ++ [(k, v)]
theorem valV_pos {p : κ × V} {r : List (κ × V)} {k : κ} (e : p.1 = k) : valV (p :: r) k = some p.2 := by simp [valV, List.find?_cons, e]
theorem valV_neg {p : κ × V} {r : List (κ × V)} {k : κ} (e : ¬ p.1 = k) : valV (p :: r) k = valV r k := by simp [valV, List.find?_cons, e]
theorem valV_any (k : κ) : ∀ kvs : List (κ × V), (kvs.any fun kv => decide (kv.1 = k)) = (valV kvs k).isSome
  | [] => rfl
  | p :: r => by
    rw [List.any_cons]
    by_cases e : p.1 = k
    · simp only [valV_pos e, decide_eq_true e, Bool.true_or, Option.isSome_some]
    · rw [valV_neg e, decide_eq_false e, Bool.false_or]; exact valV_any k r
theorem length_putK (kvs : List (κ × V)) (k : κ) (v : V) : (putK kvs k v).length ≤ kvs.length + 1 := by
  unfold putK
  split
  · rw [List.length_map]; omega
  · rw [List.length_append, List.length_cons, List.length_nil]; omega
theorem putK_new {kvs : List (κ × V)} {k : κ} (v : V) (h : valV kvs k = none) : putK kvs k v = kvs ++ [(k, v)] := by
  unfold putK
  rw [valV_any, h]
  exact if_neg (by decide)

theorem RelO.getD {o : Option V} {u : Option Value} {d : V} {d' : Value} (r : RelO o u) (rd : RelV d d') : RelV (o.getD d) (u.getD d') := by
  cases o with
  | none => cases u with
    | none => exact rd
    | some _ => exact (show False from r).elim
  | some _ => cases u with
    | none => exact (show False from r).elim
    | some _ => exact r

/-- raw tables of the same keys -/
theorem KV.val {kvs : List (κ × V)} {vs : List (κ × Value)} (r : KV kvs vs) (k : κ) : RelO (valV kvs k) (valueAt vs k) := by
  unfold KV at r
  induction r with
  | nil => exact True.intro
  | @cons p q ps qs h t ih =>
    obtain ⟨h1, h2⟩ := h
    by_cases e : p.1 = k
    · have e' : q.1 = k := h1.symm.trans e
      have b : valueAt (q :: qs) k = some q.2 := by simp [valueAt, List.find?_cons, e']
      rw [valV_pos e, b]; exact h2
    · have e' : ¬ q.1 = k := fun z => e (h1.trans z)
      have b : valueAt (q :: qs) k = valueAt qs k := by simp [valueAt, List.find?_cons, e']
      rw [valV_neg e, b]; exact ih
theorem KV.any {kvs : List (κ × V)} {vs : List (κ × Value)} (r : KV kvs vs) (k : κ) : (kvs.any fun kv => decide (kv.1 = k)) = vs.any fun kv => decide (kv.1 = k) := by
  unfold KV at r
  induction r with
  | nil => rfl
  | cons h t ih => rw [List.any_cons, List.any_cons, ih, h.1]
theorem KV.repl {kvs : List (κ × V)} {vs : List (κ × Value)} (r : KV kvs vs) (k : κ) {y : V} {u : Value} (ry : RelV y u) :
    KV (kvs.map fun kv => if kv.1 = k then (kv.1, y) else kv) (vs.map fun kv => if kv.1 = k then (kv.1, u) else kv) := by
  unfold KV at r ⊢
  induction r with
  | nil => exact .nil
  | @cons p q ps qs h t ih =>
    rw [List.map_cons, List.map_cons]
    refine .cons ?_ ih
    obtain ⟨h1, h2⟩ := h
    by_cases e : p.1 = k
    · rw [if_pos e, if_pos (h1.symm.trans e)]; exact ⟨h1, ry⟩
    · rw [if_neg e, if_neg (fun z => e (h1.trans z))]; exact ⟨h1, h2⟩
theorem KV.put {kvs : List (κ × V)} {vs : List (κ × Value)} (r : KV kvs vs) (k : κ) {y : V} {u : Value} (ry : RelV y u) : KV (putK kvs k y) (stored vs k u) := by
  unfold putK stored
  rw [r.any k]
  by_cases e : (vs.any fun kv => decide (kv.1 = k)) = true
  · rw [if_pos e, if_pos e]; exact r.repl k ry
  · rw [if_neg e, if_neg e]; exact Paired.snoc r ⟨rfl, ry⟩
end


/-! ### a tracked dict, its keys ints and texts or tuples of these -/
theorem kV_is {P : Program} {w : World} {k : Key} {u : Value} (r : RelV (kV k) u) : (mixKind P w).is k u = true := by
  cases k with
  | inl i => obtain ⟨t, e⟩ := (show ∃ t, u = Value.int i t from r); subst e; exact mixKind_int P w i t
  | inr x => obtain ⟨t, e⟩ := (show ∃ t, u = Value.str x t from r); subst e; exact mixKind_str P w x t
theorem items_are {P : Program} {w : World} : ∀ {ks : List Key} {us : List Value}, Vals (ks.map kV) us → ItemsAre (mixKind P w) ks us
  | [], _, r => by rw [List.map_nil] at r; cases r; exact .nil
  | k :: ks, _, r => by
    rw [List.map_cons] at r
    cases r with
    | cons h t => exact .cons (kV_is h) (items_are t)

/-- raw entries of a dict with tuple keys -/
noncomputable abbrev KT (H : Hp) : List (List Key × V) → List (List Key × Addr × Value) → Prop := Paired fun p q => p.1 = q.1 ∧ H q.2.1 = some (.tup (p.1.map kV)) ∧ RelV p.2 q.2.2
theorem KT.val {H : Hp} {kvs : List (List Key × V)} {xs : List (List Key × Addr × Value)} (r : KT H kvs xs) (k : List Key) : RelO (valV kvs k) ((atKey xs k).map (·.2)) := by
  induction r with
  | nil => exact True.intro
  | @cons p q ps qs h t ih =>
    obtain ⟨h1, _, h2⟩ := h
    by_cases e : p.1 = k
    · have e' : q.1 = k := h1.symm.trans e
      have b : atKey (q :: qs) k = some q.2 := by simp [atKey, List.find?_cons, e']
      rw [valV_pos e, b]; exact h2
    · have e' : ¬ q.1 = k := fun z => e (h1.trans z)
      have b : atKey (q :: qs) k = atKey qs k := by simp [atKey, List.find?_cons, e']
      rw [valV_neg e, b]; exact ih
section
variable {P : Program} {w : World} {H : Hp} {h : Heap} {a : Addr}
theorem rd_of {u : HO} (ok : HOk P w H h) (e : Rd H a u) : ObjOk P w H h a u := e.ok ok
theorem dk_rd {kvs : List (Key × V)} (ok : HOk P w H h) (e : Rd H a (.dK kvs)) : kvs.length ≤ sizeLine ∧ (a == sysModules) = false ∧ ∃ vs, KV kvs vs ∧ h.DictOf (mixKind P w) a vs :=
  show ObjOk P w H h a (.dK kvs) from rd_of ok e
theorem dk_of {kvs : List (Key × V)} (ok : HOk P w H h) (e : H a = some (.dK kvs)) : kvs.length ≤ sizeLine ∧ (a == sysModules) = false ∧ ∃ vs, KV kvs vs ∧ h.DictOf (mixKind P w) a vs := dk_rd ok (.inl e)
/-- a tracked tuple of ints and texts is a key -/
theorem key_of {ks : List Key} (ok : HOk P w H h) (e : H a = some (.tup (ks.map kV))) : (tupleKind (mixKind P w)).is h ks a := by
  obtain ⟨_, its, r, o, h1, h2, n, h3⟩ := (show ObjOk P w H h a (.tup (ks.map kV)) from ok a _ e)
  exact ⟨o, its.toArray, n, h1, h2, h3, by simpa using items_are r⟩
theorem dt_rd {kvs : List (List Key × V)} (ok : HOk P w H h) (e : Rd H a (.dT kvs)) : kvs.length ≤ sizeLine ∧ (a == sysModules) = false ∧
    ∃ xs, KT H kvs xs ∧ h.DictOfH (tupleKind (mixKind P w)) a xs := by
  obtain ⟨z, y, xs, r, o, es, ep, h1, h2, h3, h4, h5⟩ := (show ObjOk P w H h a (.dT kvs) from rd_of ok e)
  refine ⟨z, y, xs, r, o, es, ep, h1, h2, h3, h4, fun x hx => ?_, h5⟩
  have all : ∀ {l : List (List Key × V)} {m : List (List Key × Addr × Value)}, KT H l m → ∀ x ∈ m, (tupleKind (mixKind P w)).is h x.1 x.2.1 := by
    intro l m q
    induction q with
    | nil => intro x hx; exact nomatch hx
    | @cons p q ps qs hq t ih =>
      intro x hx
      rcases List.mem_cons.mp hx with e | hx
      · subst e
        exact key_of ok (by rw [← hq.1]; exact hq.2.1)
      · exact ih x hx
  exact all r x hx
end

/-- what the dict at a holds at the key y -/
noncomputable def DGet (H : Hp) (a : Addr) (y : V) (r : Option V) : Prop :=
  (∃ kvs k, Rd H a (.dK kvs) ∧ y = kV k ∧ r = valV kvs k) ∨ ∃ kvs k b, Rd H a (.dT kvs) ∧ y = .ref b ∧ H b = some (.tup (k.map kV)) ∧ r = valV kvs k
theorem DGet.k {H : Hp} {a : Addr} {kvs : List (Key × V)} {k : Key} (e : H a = some (.dK kvs)) : DGet H a (kV k) (valV kvs k) := .inl ⟨kvs, k, .inl e, rfl, rfl⟩
section
variable {X : Cx} {pins : List (Addr × Obj)} {σ : St} {H : Hp} {s : Shared} {a : Addr} {y v : V} {u r : Value} {o : Option V} {A : Around} {E : Value → Shared → Prop}

theorem Inv.big (I : Inv X pins σ H s) : sysModules < s.heap.objs.size := by
  have h : mainGlobals < s.heap.objs.size := (I.mod.glob.keeps I.bk).lt
  exact Nat.lt_trans (by decide) h

/-- d[y], there -/
theorem d_getItem {Q : Value → Shared → Prop} (hu : A.units + 1 < cLine) (I : Inv X pins σ H s) (g : DGet H a y (some v)) (ry : RelV y u) (h : ∀ w' s', Inv X pins σ H s' → RelV v w' → Q w' s') :
    wpAny (model X.prog X.w) A (getItem (.ref a) u) Q E s := by
  rcases g with ⟨kvs, k, e, ey, l⟩ | ⟨kvs, k, b, e, ey, eb, l⟩
  · subst ey
    obtain ⟨z, hd, vs, rel, dd⟩ := dk_rd I.hok e
    obtain ⟨w', hw, rw'⟩ := RelO.some_of (v := v) (o := valueAt vs k) (by rw [l]; exact rel.val k)
    exact wpAny_getItem_of (kV_is ry) dd.mapOf hw (h w' _ (I.tok _) rw')
  · subst ey
    cases (show u = Value.ref b from ry)
    obtain ⟨z, hd, xs, rel, dd⟩ := dt_rd I.hok e
    obtain ⟨w', hw, rw'⟩ := RelO.some_of (v := v) (o := (atKey xs k).map (·.2)) (by rw [l]; exact rel.val k)
    obtain ⟨p, hp, hp2⟩ := Option.map_eq_some_iff.mp hw
    refine wpAny_getItem_heap (tupleKind_room_in1 hu) (key_of I.hok eb) dd hp ?_
    rw [hp2]
    exact h w' _ (I.tok _) rw'
/-- a dict's object is replaced -/
theorem d_write {h' : Heap} {t' : Nat} {ob : HO} (I : Inv X pins σ H s) (mu : Mut (H a)) (hs : Heap.SameBut a s.heap h') (he : ∃ q, h'.get? a = some q) (new : ObjOk X.prog X.w (upd H a ob) h' a ob) :
    Inv X pins σ (upd H a ob) { s with heap := h', toks := t' } :=
  I.write (x := a) (e := a) mu (.inl rfl) (fun b q hb z => (hs.2 b hb).trans z) he new
theorem dk_new {P : Program} {w : World} {H' : Hp} {h' : Heap} {kvs : List (Key × V)} {vs : List (Key × Value)} (z : kvs.length ≤ sizeLine) (hd : (a == sysModules) = false) (rel : KV kvs vs) (dd : h'.DictOf (mixKind P w) a vs) :
    ObjOk P w H' h' a (.dK kvs) := ⟨z, hd, vs, rel, dd⟩
end

section
variable {X : Cx} {pins : List (Addr × Obj)} {σ : St} {H : Hp} {s : Shared} {a : Addr} {kvs : List (Key × V)} {k : Key} {u : Value} {A : Around} {E : Value → Shared → Prop}
end


/-! ### readings and rules -/
/-- the element of a subscription, not a slice -/
noncomputable def NoSl (i : Expr) : Prop := ∀ ov iv, subscripted i false ov iv = operate [ov, iv] (getItem ov iv)
theorem subD_of {prog : Program} {w : World} {A : Around} {E : Value → Shared → Prop} {s : Shared} {env : Env} {value slice : Expr} {pos : Pos} {T id : String} {Q : Value → Shared → Prop}
    (hl : typeLookup (.type T) "__getitem__" = pure (some (.builtin id))) (hs : NoSl slice)
    (h : wpAny (model prog w) A (eval value env) (fun o s₁ => wpAny (model prog w) A (eval slice env) (fun i s₂ => s₂.TypeIs o T ∧ wpAny (model prog w) A (getItem o i) Q E s₂) E s₁) E s) :
    wpAny (model prog w) A (eval (.Subscript value slice pos) env) Q E s := by
  refine Subscript_ (wpAny_mono h (fun o s₁ h₁ => wpAny_mono h₁ (fun i s₂ h₂ => ?_) fun _ _ x => x) fun _ _ x => x)
  obtain ⟨hT, h₂⟩ := h₂
  unfold subscriptTail
  refine wpAny_bind ?_
  rw [getitemInPython_of_ne hT.not_modules]
  refine wpAny_bind (wpAny_specialOf hT hl ?_)
  have fin : wpAny (model prog w) A (subscripted slice false o i) (fun r s₃ => wpAny (model prog w) A (letTemporaryGo value o r >>= fun _ => pure r) Q E s₃) E s₂ := by
    rw [hs o i]
    exact wpAny_operating (wpAny_mono h₂ (fun r s₃ h₃ => wpAny_bind (wpAny_letTemporaryGo (wpAny_pure h₃))) fun _ _ x => x)
  first
    | exact wpAny_pure (wpAny_bind fin)
    | exact wpAny_bind (wpAny_pure (wpAny_bind fin))
    | exact wpAny_bind fin

theorem dict_typeIs {X : Cx} {pins : List (Addr × Obj)} {σ : St} {H : Hp} {s : Shared} {a : Addr} {y : V} {o : Option V} (I : Inv X pins σ H s) (g : DGet H a y o) : s.TypeIs (.ref a) "dict" := by
  rcases g with ⟨kvs, k, e, _, _⟩ | ⟨kvs, k, b, e, _, _, _⟩
  · obtain ⟨_, _, vs, _, dd⟩ := dk_rd I.hok e
    exact dd.typeIs
  · obtain ⟨_, _, xs, _, dd⟩ := dt_rd I.hok e
    exact dd.typeIs
/-- d[y] -/
noncomputable def tDGet (td ty : TE) : TE := fun σ H Q => td σ H fun x H1 => ty σ H1 fun y H2 => ∃ a v, x = .ref a ∧ DGet H2 a y (some v) ∧ Q v H2
section
variable {X : Cx} {o i e value : Expr} {pos pos' tpos : Pos} {td ty tv : TE}
theorem pe_dget (hu : X.A.units + 1 < cLine) (ho : PE X o td) (hi : PE X i ty) (hs : NoSl i) : PE X (.Subscript o i pos) (tDGet td ty) := by
  intro pins s σ H Q I h
  refine subD_of PySem.F.slot_dict_getitem.lookup hs (thn (ho pins s σ H _ I h) fun u s1 ⟨x, H1, I1, rx, q1⟩ => thn (hi pins s1 σ H1 _ I1 q1) fun iv s2 ⟨y, H2, I2, ry, a, v, ex, g, q2⟩ => ?_)
  subst ex
  obtain rfl : u = Value.ref a := rx
  exact ⟨dict_typeIs I2 g, d_getItem hu I2 g ry fun w' s3 I3 rw' => ⟨v, H2, I3, rw', q2⟩⟩
end


/-! ### displays -/
theorem dk_empty {P : Program} {w : World} {H : Hp} (h : Heap) (hb : sysModules < h.objs.size) : ObjOk P w H (h.push { cls := .type "dict", data := .dict #[] }) h.objs.size (.dK []) :=
  ⟨Nat.zero_le _, beq_eq_false_iff_ne.mpr (Ne.symm (Nat.ne_of_lt hb)), [], .nil, Heap.DictOf.new h⟩
section
variable {X : Cx} {pos : Pos}
end

/-- the pairs of a display, from the left -/
noncomputable def tPairs : List (TE × TE) → St → Hp → (List (V × V) → Hp → Prop) → Prop
  | [], _, H, Q => Q [] H
  | (tk, tv) :: r, σ, H, Q => tk σ H fun x H1 => tv σ H1 fun y H2 => tPairs r σ H2 fun ps H3 => Q ((x, y) :: ps) H3
noncomputable abbrev VV : List (V × V) → List (Value × Value) → Prop := Paired fun p q => RelV p.1 q.1 ∧ RelV p.2 q.2
noncomputable def PPs (X : Cx) (pos : Pos) (keys : List (Option Expr)) (values : List Expr) (trs : List (TE × TE)) : Prop :=
  ∀ (pins : List (Addr × Obj)) (s : Shared) (σ : St) (H : Hp) (Q : List (V × V) → Hp → Prop), Inv X pins σ H s → tPairs trs σ H Q →
    wpAny (model X.prog X.w) X.A (evalPairs (pairTrees keys values X.env pos)) (fun vs s' => ∃ ps H', Inv X pins σ H' s' ∧ VV ps vs ∧ Q ps H') X.xe s
theorem pps_nil {X : Cx} {pos : Pos} : PPs X pos [] [] [] := fun pins s σ H Q I h => pairTrees_nil_walk ⟨[], H, I, .nil, h⟩
theorem pps_cons {X : Cx} {pos : Pos} {k v : Expr} {ks : List (Option Expr)} {vs : List Expr} {tk tv : TE} {trs : List (TE × TE)} (hk : PE X k tk) (hv : PE X v tv) (hr : PPs X pos ks vs trs) :
    PPs X pos (some k :: ks) (v :: vs) ((tk, tv) :: trs) := fun pins s σ H Q I h =>
  pairTrees_cons_walk (thn (hk pins s σ H _ I h) fun u s1 ⟨x, H1, I1, rx, q1⟩ => thn (hv pins s1 σ H1 _ I1 q1) fun w2 s2 ⟨y, H2, I2, ry, q2⟩ =>
    thn (hr pins s2 σ H2 _ I2 q2) fun ws s3 ⟨ps, H3, I3, rel, q3⟩ => ⟨(x, y) :: ps, H3, I3, .cons ⟨rx, ry⟩ rel, q3⟩)

noncomputable def mergeK (kvs more : List (Key × V)) : List (Key × V) := more.foldl (fun acc kv => putK acc kv.1 kv.2) kvs
theorem KV.merge : ∀ {more : List (Key × V)} {rs : List (Key × Value)} {kvs : List (Key × V)} {vs : List (Key × Value)}, KV more rs → KV kvs vs → KV (mergeK kvs more) (merged vs rs) := by
  intro more rs kvs vs r
  unfold KV at r
  induction r generalizing kvs vs with
  | nil => intro q; exact q
  | @cons p q ps qs h t ih =>
    intro r0
    have e : KV (putK kvs p.1 p.2) (stored vs q.1 q.2) := by
      have := r0.put p.1 h.2
      rw [← h.1]; exact this
    exact ih e
theorem length_mergeK : ∀ (more kvs : List (Key × V)), (mergeK kvs more).length ≤ kvs.length + more.length
  | [], kvs => by show kvs.length ≤ kvs.length + 0; omega
  | p :: r, kvs => by
    have h1 := length_mergeK r (putK kvs p.1 p.2)
    have h2 := length_putK kvs p.1 p.2
    show (mergeK (putK kvs p.1 p.2) r).length ≤ _
    rw [List.length_cons]; omega
theorem carries_of {P : Program} {w : World} : ∀ {kvs : List (Key × V)} {ws : List (Value × Value)}, VV (kvs.map fun kv => (kV kv.1, kv.2)) ws → ∃ rs, Carries (mixKind P w) ws rs ∧ KV kvs rs
  | [], _, r => by rw [List.map_nil] at r; cases r; exact ⟨[], True.intro, .nil⟩
  | p :: kvs, _, r => by
    rw [List.map_cons] at r
    cases r with
    | @cons a b as bs h t =>
      obtain ⟨rs, c, q⟩ := carries_of (P := P) (w := w) t
      obtain ⟨b1, b2⟩ := b
      exact ⟨(p.1, b2) :: rs, ⟨kV_is h.1, rfl, c⟩, .cons ⟨rfl, h.2⟩ q⟩
/-- {k: v, ..} with keys ints and texts; the new dict stands empty while the pairs are made -/
noncomputable def tDisp (trs : List (TE × TE)) : TE := fun σ H Q => ∀ p, H p = none → tPairs trs σ (upd H p (.dK [])) fun ps H2 => H2 p = some (.dK []) ∧ ∃ kvs : List (Key × V), ps = kvs.map (fun kv => (kV kv.1, kv.2)) ∧ kvs.length ≤ 15 ∧ Q (.ref p) (upd H2 p (.dK (mergeK [] kvs)))
theorem pe_disp {X : Cx} {pos : Pos} {keys : List (Option Expr)} {values : List Expr} {trs : List (TE × TE)} (h : PPs X pos keys values trs) (hall : keys.all (·.isSome) = true) (hl : keys.length = values.length) (h0 : keys ≠ [])
    (h15 : keys.length ≤ 15) : PE X (.Dict keys values pos) (tDisp trs) := by
  intro pins s σ H Q I q
  have hn := I.hok.fresh (Nat.le_refl s.heap.objs.size)
  have I1 := I.laid (a := s.heap.objs.size) (o := .dK []) (h' := s.heap.push { cls := .type "dict", data := .dict #[] }) (t' := s.toks) (fun _ _ q => Heap.get?_push_of_some _ q) (Nat.le_refl _) (dk_empty s.heap I.big)
  refine wpAny_Dict_walk (knd := mixKind X.prog X.w) hall hl h0 h15 (thn (h pins _ σ _ _ I1 (q _ hn)) fun ws s2 ⟨ps, H2, I2, rel, e, kvs, ep, lk, q2⟩ => ?_)
  subst ep
  obtain ⟨rs, c, rk⟩ := carries_of (P := X.prog) (w := X.w) rel
  obtain ⟨z, hd, vs0, r0, dd⟩ := dk_of I2.hok e
  cases r0
  refine ⟨rs, c, dd, fun h' dd' hs => ⟨.ref s.heap.objs.size, _, ?_, rfl, q2⟩⟩
  have hz : (mergeK [] kvs).length ≤ sizeLine := by
    have h1 := length_mergeK kvs []
    rw [List.length_nil] at h1
    rw [sizeLine_eq]; omega
  have he : ∃ q, h'.get? s.heap.objs.size = some q := let ⟨q, _, _, hq, _⟩ := dd'; ⟨q, hq⟩
  exact d_write I2 (by rw [e]; exact True.intro) hs he (dk_new hz hd (rk.merge .nil) dd')


/-! ### methods -/
/-- a method call o.m(e) of a built-in, with one argument: what must be seen of the text -/
structure M1 (X : Cx) (o : Expr) (m : Str) (apos : Pos) (e : Expr) (cpos : Pos) : Prop where
  base : attributeBase o m X.env (eval o X.env) = eval o X.env
  few : ((backTo cpos (starEach [e] X.env)).all (fun x => !x.1) && (backToKw cpos (keywordEach [] X.env)).all (fun x => x.1.isSome)
    && decide (([e] : List Expr).length + ([] : List Keyword).length + (if ([] : List Keyword).isEmpty then 0 else 1) < 30)) = true
  line : (apos.endLine == cpos.line) = true
  trees : backTo cpos (starEach [e] X.env) = [(false, eval e X.env)]
structure M2 (X : Cx) (o : Expr) (m : Str) (apos : Pos) (e f : Expr) (cpos : Pos) : Prop where
  base : attributeBase o m X.env (eval o X.env) = eval o X.env
  few : ((backTo cpos (starEach [e, f] X.env)).all (fun x => !x.1) && (backToKw cpos (keywordEach [] X.env)).all (fun x => x.1.isSome)
    && decide (([e, f] : List Expr).length + ([] : List Keyword).length + (if ([] : List Keyword).isEmpty then 0 else 1) < 30)) = true
  line : (apos.endLine == cpos.line) = true
  trees : backTo cpos (starEach [e, f] X.env) = [(false, eval e X.env), (false, eval f X.env)]

/-- a is a dict, whatever its keys -/
noncomputable def IsD (H : Hp) (a : Addr) : Prop := (∃ kvs, Rd H a (.dK kvs)) ∨ ∃ kvs, Rd H a (.dT kvs)
theorem isD_at {X : Cx} {pins : List (Addr × Obj)} {σ : St} {H : Hp} {s : Shared} {a : Addr} (I : Inv X pins σ H s) (d : IsD H a) :
    s.TypeIs (.ref a) "dict" ∧ (∀ b, Value.ref a = .ref b → ∃ ob, s.heap.get? b = some ob ∧ ob.dict = none) ∧ (a == sysModules) = false := by
  rcases d with ⟨kvs, e⟩ | ⟨kvs, e⟩
  · obtain ⟨_, hd, vs, _, dd⟩ := dk_rd I.hok e
    refine ⟨dd.typeIs, fun b q => ?_, hd⟩
    cases q
    obtain ⟨ob, _, _, h1, h2, _⟩ := dd
    exact ⟨ob, h1, h2.2.1⟩
  · obtain ⟨_, hd, xs, _, dd⟩ := dt_rd I.hok e
    refine ⟨dd.typeIs, fun b q => ?_, hd⟩
    cases q
    obtain ⟨ob, _, _, h1, h2, _⟩ := dd
    exact ⟨ob, h1, h2.2.1⟩

section
variable {X : Cx} {pins : List (Addr × Obj)} {σ : St} {H : Hp} {s : Shared} {a : Addr} {y d : V} {u r : Value} {o : Option V} {A : Around} {E : Value → Shared → Prop}
/-- d.get(y) -/
theorem d_get1 {Q : Value → Shared → Prop} (hu : A.units + 1 < cLine) (I : Inv X pins σ H s) (g : DGet H a y o) (ry : RelV y u) (h : ∀ w' s', Inv X pins σ H s' → RelV (o.getD .non) w' → Q w' s') :
    wpAny (model X.prog X.w) A (call (.builtin "dict.get") [.ref a, u]) Q E s := by
  rcases g with ⟨kvs, k, e, ey, l⟩ | ⟨kvs, k, b, e, ey, eb, l⟩
  · subst ey
    obtain ⟨z, hd, vs, rel, dd⟩ := dk_rd I.hok e
    refine call_meetsIn PySem.F.slot_dict_get dd.typeIs PySem.F.entry_dict_get (PySem.F.args_dict_get_2 _ _) (meets_dict_get (mixKind X.prog X.w) a (kV_is ry) hd) ⟨_, dd.mapOf, h _ _ (I.tok _) ?_⟩
    rw [l]
    exact (rel.val k).getD rfl
  · subst ey
    cases (show u = Value.ref b from ry)
    obtain ⟨z, hd, xs, rel, dd⟩ := dt_rd I.hok e
    refine call_meetsIn PySem.F.slot_dict_get dd.typeIs PySem.F.entry_dict_get (PySem.F.args_dict_get_2 _ _) (meetsH_dict_get (tupleKind (mixKind X.prog X.w)) a b hd) ⟨tupleKind_room_in1 hu, k, xs, key_of I.hok eb, dd, h _ _ (I.tok _) ?_⟩
    rw [l]
    exact (rel.val k).getD rfl
/-- d.get(y, x) -/
theorem d_get2 {Q : Value → Shared → Prop} (hu : A.units + 1 < cLine) (I : Inv X pins σ H s) (g : DGet H a y o) (ry : RelV y u) (rd : RelV d r) (h : ∀ w' s', Inv X pins σ H s' → RelV (o.getD d) w' → Q w' s') :
    wpAny (model X.prog X.w) A (call (.builtin "dict.get") [.ref a, u, r]) Q E s := by
  rcases g with ⟨kvs, k, e, ey, l⟩ | ⟨kvs, k, b, e, ey, eb, l⟩
  · subst ey
    obtain ⟨z, hd, vs, rel, dd⟩ := dk_rd I.hok e
    refine call_meetsIn PySem.F.slot_dict_get dd.typeIs PySem.F.entry_dict_get (PySem.F.args_dict_get_3 _ _ _) (meets_dict_get_default (mixKind X.prog X.w) a (kV_is ry) hd r) ⟨_, dd.mapOf, h _ _ (I.tok _) ?_⟩
    rw [l]
    exact (rel.val k).getD rd
  · subst ey
    cases (show u = Value.ref b from ry)
    obtain ⟨z, hd, xs, rel, dd⟩ := dt_rd I.hok e
    refine call_meetsIn PySem.F.slot_dict_get dd.typeIs PySem.F.entry_dict_get (PySem.F.args_dict_get_3 _ _ _) (meetsH_dict_get_default (tupleKind (mixKind X.prog X.w)) a b hd r) ⟨tupleKind_room_in1 hu, k, xs, key_of I.hok eb, dd, h _ _ (I.tok _) ?_⟩
    rw [l]
    exact (rel.val k).getD rd
end

noncomputable def tDGet1 (td ty : TE) : TE := fun σ H Q => td σ H fun x H1 => ∃ a, x = .ref a ∧ IsD H1 a ∧ ty σ H1 fun y H2 => ∃ o, DGet H2 a y o ∧ Q (o.getD .non) H2
noncomputable def tDGet2 (td ty tx : TE) : TE := fun σ H Q => td σ H fun x H1 => ∃ a, x = .ref a ∧ IsD H1 a ∧ ty σ H1 fun y H2 => tx σ H2 fun z H3 => ∃ o, DGet H3 a y o ∧ Q (o.getD z) H3
section
variable {X : Cx} {o e f : Expr} {apos cpos : Pos} {td ty tx : TE}
theorem pe_dget1 (hu : X.A.units + 1 < cLine) (ho : PE X o td) (he : PE X e ty) (m : M1 X o "get" apos e cpos) : PE X (.Call (.Attribute o "get" apos) [e] [] cpos) (tDGet1 td ty) := by
  intro pins s σ H Q I h
  refine wpAny_Call_method m.base m.few m.line PySem.F.plainAttrs_dict PySem.F.slot_dict_get PySem.F.type_dict_get (thn (ho pins s σ H _ I h) fun u s1 ⟨x, H1, I1, rx, a, ex, d, q1⟩ => ?_)
  subst ex
  obtain rfl : u = Value.ref a := rx
  obtain ⟨t1, t2, _⟩ := isD_at I1 d
  refine ⟨t1, t2, ?_⟩
  rw [m.trees]
  refine Calls.callWith_builtin rfl (Calls.evalArgs_plain (Calls.spliced_cons (thn (he pins s1 σ H1 _ I1 q1) fun iv s2 ⟨y, H2, I2, ry, ov, g, q2⟩ => Calls.spliced_nil ?_)))
  exact d_get1 hu I2 g ry fun w' s3 I3 rw' => ⟨_, H2, I3, rw', q2⟩
theorem pe_dget2 (hu : X.A.units + 1 < cLine) (ho : PE X o td) (he : PE X e ty) (hf : PE X f tx) (m : M2 X o "get" apos e f cpos) : PE X (.Call (.Attribute o "get" apos) [e, f] [] cpos) (tDGet2 td ty tx) := by
  intro pins s σ H Q I h
  refine wpAny_Call_method m.base m.few m.line PySem.F.plainAttrs_dict PySem.F.slot_dict_get PySem.F.type_dict_get (thn (ho pins s σ H _ I h) fun u s1 ⟨x, H1, I1, rx, a, ex, d, q1⟩ => ?_)
  subst ex
  obtain rfl : u = Value.ref a := rx
  obtain ⟨t1, t2, _⟩ := isD_at I1 d
  refine ⟨t1, t2, ?_⟩
  rw [m.trees]
  refine Calls.callWith_builtin rfl (Calls.evalArgs_plain (Calls.spliced_cons (thn (he pins s1 σ H1 _ I1 q1) fun iv s2 ⟨y, H2, I2, ry, q2⟩ =>
    Calls.spliced_cons (thn (hf pins s2 σ H2 _ I2 q2) fun fv s3 ⟨z, H3, I3, rz, ov, g, q3⟩ => Calls.spliced_nil ?_))))
  exact d_get2 hu I3 g ry rz fun w' s4 I4 rw' => ⟨_, H3, I4, rw', q3⟩
end

/-! ### dict(d): a copy -/
section
variable {X : Cx} {pins : List (Addr × Obj)} {σ : St} {H : Hp} {s : Shared} {a : Addr} {kvs : List (Key × V)} {A : Around} {E : Value → Shared → Prop}
end


section
variable {X : Cx} {pins : List (Addr × Obj)} {σ : St} {H : Hp} {s : Shared} {a : Addr} {y : V} {u : Value} {A : Around} {E : Value → Shared → Prop}
end
end L2

namespace Att
open PySem PySem.W PySem.Calls PyProof.Rows

/-! ### the script -/
theorem ints_of_wellAll {P : Params} {h : Heap} : ∀ (ns : List Int) (vs : List Value), WellAll P h vs (ns.map WData.int) → IntsAre vs ns := by
  intro ns
  induction ns with
  | nil =>
    intro vs w
    rw [List.map_nil] at w
    cases w
    exact .nil
  | cons n ns ih =>
    intro vs w
    rw [List.map_cons] at w
    cases w with
    | cons a b =>
      cases a
      exact .cons _ _ (ih _ b)

theorem script_of {l : OpenLaw} {n : Nat} (hn : l.most = some n) {P : Params} {h : Heap} {args : List WData} {vals : List Value}
    (hpre : l.row.toRowW.claim.pre args = true) (hwl : WellAll P h vals args) :
    ∃ a vs ns, vals = [Value.ref a] ∧ args = [WData.list (ns.map WData.int)] ∧ h.get? a = some { cls := .type "list", data := .seq vs.toArray } ∧ IntsAre vs ns ∧ ns.length ≤ n := by
  have hsh : WShape.hasAll [] args [.list .int] = true := (pre_splitW hpre).1
  have hc : l.pre.holds [] { args := args } = true := (pre_splitW hpre).2
  obtain ⟨d, r, rfl, h1, h2⟩ := hasAllW_cons hsh
  obtain rfl := hasAllW_nil h2
  obtain ⟨xs, rfl, h3⟩ := hasW_list h1
  obtain ⟨ns, rfl⟩ := items_int h3
  have hlen : ns.length ≤ n := by
    unfold OpenLaw.pre at hc
    have h4 : (WTm.not (.lt (.lit (.int (n : Int))) (.len (.arg 0)))).holds [] { args := [.list (ns.map .int)] } = true := by
      have h4 := (holds_andW hc).1
      rw [hn] at h4
      exact h4
    have h5 := condW_of h4 (w_not (w_lt w_lit (w_len_list (w_arg rfl))))
    rw [List.length_map] at h5
    refine Nat.le_of_not_lt fun q => ?_
    have q' : (n : Int) < ((ns.length : Nat) : Int) := by omega
    first
      | (rw [decide_eq_true q'] at h5; exact absurd h5 (by decide))
      | (simp at h5; omega)
  cases hwl with
  | cons w1 w2 =>
    cases w2
    cases w1 with
    | list ho hall => exact ⟨_, _, ns, rfl, rfl, ho, ints_of_wellAll ns _ hall, hlen⟩

theorem post_true (l : OpenLaw) (args : List WData) : l.row.toRowW.claim.post args (.bool true) args = true :=
  postW_of (r := l.row.toRowW) (X := (true == true))
    (show WShape.has [] (.bool true) .bool = true by first | rfl | decide | simp [WShape.has, WShape.arms, WShape.armsAll])
    (show (WTm.eq .res (.lit (.bool true))).value [] { args := args, res := some (.bool true), after := args } = some (.bool (true == true)) from w_eq_bool (w_res rfl) w_lit) rfl

/-! ### the attachment: holds_open's last premise (the goal 'hc' behind k_head) from a wpAny of the law's body -/
/-- the same from a codeAny of the CALL (for a layer whose function contracts speak of calls) -/
theorem attach_call {l : OpenLaw} {n : Nat} {q : Program} {loose : List Str} {XP : (Str → Option Value) → Heap → Prop} {YP : World → Heap → Prop} {d : DefRec}
    (hn : l.most = some n) (hdf : d.params.defaults = [])
    (call : ∀ (w : World) (s₀ s₁ : Shared) (mg mb : Str → Option Value) (fa : Addr) (o : Obj) (pm cd doc : Value) (a : Addr) (vs : List Value) (ns : List Int),
      Ground q loose [] XP w s₀ mg mb s₁.heap → YP w s₁.heap →
      s₁.heap.get? fa = some o → o.data = .func (docDef d.name d.params d.body d.scope pm cd doc) → s₁.heap.CodeRec cd d.name → mg d.name = some (.ref fa) →
      s₁.heap.get? a = some { cls := .type "list", data := .seq vs.toArray } → IntsAre vs ns → ns.length ≤ n → s₁.gens = #[] →
      codeAny (model l.prog w) callerA (.call (.ref fa) ⟨[.ref a], []⟩) (fun r s' => r = .ok (.ret (.bool true)) ∧ OldK s₁.heap s'.heap ∧ s'.os = s₁.os ∧ AllBare s'.gens) s₁) :
    WalkO q loose XP YP l.row.toRowW d [] (fun f vs => PySem.call f vs) := by
  intro w s₀ s₁ mg mb G Y fa o pm cd doc dV kV ho hd hcd hD hmg hg args vals as hpre hlay hrd hwl hlo
  obtain rfl : dV = .none := Dflts.none hD hdf
  obtain rfl : kV = .none := Dflts.noKw hD
  obtain ⟨a, vs, ns, rfl, rfl, hobj, hints, hlen⟩ := script_of hn hpre hwl
  refine enter_call (codeAny_mono (call w s₀ s₁ mg mb fa o pm cd doc a vs ns G Y ho (fd_plain hd) hcd hmg hobj hints hlen hg) fun r s' hq => ?_)
  obtain ⟨rfl, h2, h3, h4⟩ := hq
  exact ⟨.inl ⟨.bool true, .bool true, [], rfl, fun _ => rfl, .bool true, post_true l _, fun _ => ⟨List.Pairwise.nil, fun _ hm => (nomatch hm)⟩⟩, h2, h3, h4⟩

/-! ### rules over ANY heap (no ledger) from facts about the written part K: the library's own take a ledger (News) for what they write -/
section
variable {prog : Program} {w : World} {A : Around} {E : Value → Shared → Prop} {s : Shared} {K : Frag}

/-! the whole heap as the ledger: makes every rule that writes through a ledger a rule over any heap -/
noncomputable def ledger (h : Heap) (L d : Addr) : List (Addr × Obj) := (List.range h.objs.size).filterMap fun a => if a = L ∨ a = d then none else (h.get? a).map fun o => (a, o)
end
end Att

namespace L2
open PySem PySem.Spec PyProof.Rows

theorem vals_ints : ∀ {vs : List Value} {ns : List Int}, IntsAre vs ns → Vals (ns.map V.int) vs
  | _, _, .nil => .nil
  | _, _, .cons n t h => .cons ⟨t, rfl⟩ (vals_ints h)

/-- nothing is tracked but the script, known to the object (or it is an object of the module) -/
noncomputable def Only (H : Hp) : Prop := ∀ b, H b = none ∨ ∃ o xs, H b = some (.frz o (.lst xs))

/-- THE HEAD: the law's promise, at the heap behind the top. F, the promise of the law's def, may use that base is part of the heap (so K.In base, base.Ns mainGlobals mg stand in Mod) -/
theorem law_call {P : Program} {w : World} {K : PySem.W.Frag} {mg mb : Str → Option Value} {CX : CXT} {k : Nat} {fa a : Addr} {fd : FuncData} {x : Str} {sp : Sp} {s₁ : Shared} {vs : List Value} {ns : List Int}
    (KX : K.In s₁.heap) (hns : s₁.heap.Ns mainGlobals mg) (hb : s₁.heap.Ns builtinsNs mb) (hbb : ∀ x : Str, x ≠ "__name__" → mb x = bootBuiltins x) (hlim : s₁.heap.NoLimit) (hg : s₁.gens = #[])
    (ha : s₁.heap.get? a = some { cls := .type "list", data := .seq vs.toArray }) (hi : IntsAre vs ns) (hl : ns.length ≤ sizeLine) (hr : Room k callerA)
    (F : ∀ base : Heap, K.In base → base.Ns mainGlobals mg → FnOk P w K mg base CX k fa fd [x] sp) (hbind : ∀ (s : Shared) (u : Value), BindsTo s fd ⟨[u], []⟩ [(x, u)])
    (hsp : ∀ H : Hp, Only H → SqL K H a (ns.map V.int) → sp [.ref a] H (fun v _ => v = .bl true) fun _ _ _ => False)
    (hCX : ∀ H e s', CX [] H s₁ (fun _ _ _ => False) e s' → False) :
    codeAny (model P w) callerA (.call (.ref fa) ⟨[.ref a], []⟩) (fun r s' => r = .ok (.ret (.bool true)) ∧ OldK s₁.heap s'.heap ∧ s'.os = s₁.os ∧ AllBare s'.gens) s₁ := by
  have rv := vals_ints hi
  have lenV := hi.length
  -- from an abstract heap in which nothing but the script may be tracked
  have core : ∀ H : Hp, Only H → SqL K H a (ns.map V.int) → HOk P w H s₁.heap → (∀ b, H b ≠ none → b = a) → (H a ≠ none → K.lookup a = none) →
      codeAny (model P w) callerA (.call (.ref fa) ⟨[.ref a], []⟩) (fun r s' => r = .ok (.ret (.bool true)) ∧ OldK s₁.heap s'.heap ∧ s'.os = s₁.os ∧ AllBare s'.gens) s₁ := by
    intro H hO hS hok hA hK
    have base_of : ∀ {b : Addr} {o : Obj}, s₁.heap.get? b = some o → H b = none → (hidT s₁.heap H).get? b = some o := fun e n => hidT_get e n
    have noA : ∀ {b : Addr} {o : Obj} {es : Array DictEntry} {ep : Nat}, s₁.heap.get? b = some o → o.data = .dict es ep → H b = none := fun {b o es ep} e d => by
      cases q : H b with
      | none => rfl
      | some u =>
        have e' : b = a := hA b (by rw [q]; simp)
        subst e'
        rw [ha] at e; cases e
        have d' : Data.seq vs.toArray _ = Data.dict es ep := d
        cases d'
    have nsK : ∀ {b : Addr} {m : Str → Option Value}, s₁.heap.Ns b m → (hidT s₁.heap H).Ns b m := fun {b m} ⟨o, es, ep, e, d, r⟩ => ⟨o, es, ep, base_of e (noA e d), d, r⟩
    have hKb : K.In (hidT s₁.heap H) := fun b o e => base_of (KX b o e) (by
      cases q : H b with
      | none => rfl
      | some u =>
        have e' : b = a := hA b (by rw [q]; simp)
        subst e'
        rw [hK (by rw [q]; simp)] at e; cases e)
    have hM : Mod K mg (hidT s₁.heap H) := ⟨hKb, nsK hns, ⟨mb, nsK hb, hbb⟩, let ⟨mc, h1, h2⟩ := hlim; ⟨mc, nsK h1, h2⟩⟩
    have e0 : Env0 P w K mg (hidT s₁.heap H) callerA [] s₁ H := ⟨rfl, hM, fun b o e => of_hidT e, Nat.le_of_eq (hidT_size _ _), trivial, fun b hb => absurd (show b ∈ ([] : List Addr) from hb) (by simp), hok, .of_eq hg⟩
    refine codeAny_mono ((F _ hKb (nsK hns)).run callerA [] s₁ H ⟨[.ref a], []⟩ [.ref a] [.ref a] _ _ hr e0 (hbind s₁ (.ref a)) (.cons rfl .nil) (hsp H hO hS)) fun r s' h => ?_
    cases r with
    | error e => exact (hCX H e s' h).elim
    | ok fl =>
      cases fl with
      | next => exact False.elim h
      | brk => exact False.elim h
      | cont => exact False.elim h
      | ret u =>
        obtain ⟨v, H', os, bare, un, hok', r', q⟩ := h
        have q' : v = .bl true := q
        subst q'
        obtain rfl : u = Value.bool true := r'
        refine ⟨rfl, OldK.of_keep fun b o e => ?_, os, bare⟩
        cases q : H b with
        | none => exact un.keep b o e q (by intro z; exact absurd (show b ∈ ([] : List Addr) from z) (by simp)) (by simp)
        | some u =>
          rcases hO b with z | ⟨ob, xs, z⟩
          · rw [q] at z; cases z
          · have z2 := un.frzs b ob _ z
            obtain ⟨e1, _⟩ := hok b _ z
            obtain ⟨e2, _⟩ := hok' b _ z2
            rw [e] at e1; cases e1
            exact e2
  cases hk : K.lookup a with
  | some o =>
    -- the script is one of the module's own objects
    have e := KX a o hk
    rw [ha] at e
    cases e
    refine core (fun _ => none) (fun _ => .inl rfl) (.inr ⟨_, vs.toArray, _, hk, rfl, rfl, rfl, by rw [List.size_toArray, lenV]; exact hl, by simpa using rv⟩) (fun b u z => by have z' : (none : Option HO) = some u := z; cases z') (fun b z => absurd rfl z) fun z => absurd rfl z
  | none =>
    refine core (fun b => if b = a then some (.frz { cls := .type "list", data := .seq vs.toArray } (.lst (ns.map V.int))) else none) (fun b => ?_) (.inl (.inr ⟨{ cls := .type "list", data := .seq vs.toArray }, if_pos rfl⟩)) (fun b u z => ?_) (fun b z => ?_) fun _ => hk
    · by_cases hb : b = a
      · exact .inr ⟨_, _, if_pos hb⟩
      · exact .inl (if_neg hb)
    · by_cases hb : b = a
      · have z' := (if_pos hb).symm.trans z
        cases z'
        subst hb
        exact ⟨ha, by rw [List.length_map]; exact hl, vs, _, rv, ha⟩
      · have z' := (if_neg hb).symm.trans z
        cases z'
    · by_cases hb : b = a
      · exact hb
      · exact absurd (if_neg hb) z
end L2

namespace L2
open PySem PySem.Spec PyProof.Rows

noncomputable abbrev KOf {K : PySem.W.Frag} {h : Heap} (_ : K.In h) : PySem.W.Frag := K

/-- the goal that k_head leaves (case hc), from the law's promise. F gives the function object fd (K's own) once, then the promise over every base -/
theorem walk_of {l : PySem.W.OpenLaw} {n k : Nat} {q : Program} {loose : List Str} {XP : (Str → Option Value) → Heap → Prop} {YP : World → Heap → Prop} {d : DefRec} {K : Params → PySem.W.Frag} {CX : World → CXT} {sp : World → Sp} {x : Str}
    (hn : l.most = some n) (hn2 : n ≤ sizeLine) (hdf : d.params.defaults = []) (hr : Room k callerA)
    (hY : ∀ (w : World) (h : Heap), YP w h → (K w.params).In h)
    (F : ∀ (w : World) (mg : Str → Option Value) (fa : Addr) (h : Heap), (K w.params).In h → h.Ns mainGlobals mg → mg d.name = some (.ref fa) →
      ∃ fd : FuncData, (∀ (s : Shared) (u : Value), BindsTo s fd ⟨[u], []⟩ [(x, u)]) ∧
        ∀ base : Heap, (K w.params).In base → base.Ns mainGlobals mg → FnOk l.prog w (K w.params) mg base (CX w) k fa fd [x] (sp w))
    (hsp : ∀ (w : World) (H : Hp) (a : Addr) (ns : List Int), ns.length ≤ n → Only H → SqL (K w.params) H a (ns.map V.int) → sp w [.ref a] H (fun v _ => v = .bl true) fun _ _ _ => False)
    (hCX : ∀ (w : World) (H : Hp) (s : Shared) (e : Value) (s' : Shared), CX w [] H s (fun _ _ _ => False) e s' → False) :
    PySem.W.WalkO q loose XP YP l.row.toRowW d [] (fun f vs => PySem.call f vs) := by
  refine Att.attach_call hn hdf fun w s₀ s₁ mg mb fa o pm cd doc a vs ns G Y ho hd hcd hmg hobj hints hlen hg => ?_
  have KX := hY w _ Y
  obtain ⟨fd, hb, hF⟩ := F w mg fa _ KX G.T.g hmg
  exact law_call KX G.T.g G.T.b G.T.builtins G.T.nolimit hg hobj hints (Nat.le_trans hlen hn2) hr hF hb (fun H hO hS => hsp w H a ns hlen hO hS) fun H e s' => hCX w H s₁ e s'
end L2

/- THE LAST THEOREM (shape; LID, My.* are yours):
   My.Adr: a structure of the addresses that your layer names (classes, functions); My.Txt K t: a structure (Prop) of the equations over K;
   My.txt_mk : {K} {implicit addresses ..} (e1 : nsIn K mainGlobals "law" = some (some (.ref f))) (e2 : K.lookup f = some ⟨oc, od, .func (fnOf "law" "law" params body scope dV kV doc pm an cdv ct), sl⟩) (e3 : codeIn K cdv "law" = true) .. : ∃ t, My.Txt K t

set_option maxRecDepth 100000 in
set_option maxHeartbeats 0 in
theorem PySem.Challenge.cw_LID_holds : PySem.Challenge.rw_LID.Holds := by
  w_on; o_law; k_head; (case hw => w_witness2)
  k_fill
  refine L2.walk_of (l := PySem.Challenge.rw_LID) (n := 63) (k := 40) (x := "script") (CX := fun w => ..) (sp := fun _ => My.sp_law) rfl (by decide) rfl ⟨rfl, by decide, by decide⟩ (fun w h Y => PySem.W.kIn_of Y) ?F ?S ?C
  case F =>
    intro w mg fa h KX G hmg
    have T : ∃ t, My.Txt (L2.KOf KX) t := by
      dsimp only [L2.KOf]                          -- K must stand as «<heap const> w.params» for k_is
      refine' My.txt_mk ?e1 ?e2 ?e3 ..
      (case e1 => PySem.W.k_is)                    -- in the order: a name -> its address -> its object -> its parts
      (case e2 => PySem.W.k_is)
      ..
    obtain ⟨t, T⟩ := T
    have e0 := hmg.symm.trans (PySem.W.mg_of KX G T.law)
    cases e0                                       -- fa is the law's own address
    exact ⟨_, fun s u => .of_eq rfl, fun base kb nb => My.law_fn T kb nb⟩     -- if «.of_eq rfl» comes too early: refine' ⟨_, ?b, fun base kb nb => My.law_fn T kb nb⟩; exact fun s u => .of_eq rfl
  case S => exact fun w H a ns hl hO hS => ..
  case C => exact ..
(the tactic k_is has no namespace: write k_is) -/

/-! SHORT WORDS over the layer: a def of the text, its body, what a loop and a test want. -/
namespace L2
open PySem PySem.Spec PyProof.Rows

/-! ### the text by places -/
noncomputable def defArgs (s : Stmt) : Arguments := match s with
  | .FunctionDef _ a _ _ _ _ _ _ _ _ => a
  | _ => { posonlyargs := [], args := [], vararg := none, kwonlyargs := [], kw_defaults := [], kwarg := none, defaults := [] }
noncomputable def defBody (s : Stmt) : List Stmt := match s with
  | .FunctionDef _ _ b _ _ _ _ _ _ _ => b
  | _ => []
noncomputable def defScope (s : Stmt) : Scope := match s with
  | .FunctionDef _ _ _ _ _ _ sc _ _ _ => sc
  | _ => { kind := .function, names := [], isGenerator := false, isCoroutine := false }

/-! ### no exception leaves a def -/
noncomputable abbrev CX0 : CXT := fun _ _ _ _ _ _ => False
noncomputable abbrev E0 : XK := fun _ _ _ => False
theorem pass0 {X : Cx} : Passes CX0 X E0 := fun _ _ _ _ _ _ _ h => h.elim

/-! ### a def (or method) of the text as it stands behind the top -/
structure Fun (K : PySem.W.Frag) (x qual : Str) (st : Stmt) (f : Addr) (fd : FuncData) : Prop where
  ex : ∃ (oc : Value) (od : Option Addr) (kV doc pm : Value) (an : Option Addr) (cdv ct : Value) (osl : Array (Option Value)),
    fd = PySem.W.fnOf x qual (defArgs st) (defBody st) (defScope st) .none kV doc pm an cdv ct ∧ K.lookup f = some ⟨oc, od, .func fd, osl⟩ ∧ PySem.W.codeIn K cdv qual = true
  kp : PySem.W.keepIn K (.ref f) = true
section
variable {P : Program} {w : World} {K : PySem.W.Frag} {mg : Str → Option Value} {base : Heap}
/-- THE RULE for a def: its body as a term of rules, and the reading of that term -/
theorem Fun.ok {x qual : Str} {st : Stmt} {f : Addr} {fd : FuncData} {N ps : List Str} {k : Nat} {sp : Sp} (F : Fun K x qual st f fd) (S : FnScope N ps (defScope st)) (len : ∀ vs H Q E, sp vs H Q E → vs.length = ps.length)
    (hbody : ∀ (cdv : Value) (A : Around) (outer : List Env) (s : Shared) (H : Hp) (vs : List V) (Q : VK) (E : XK), Room k (A.deeper (envOfC qual (defScope st) s.heap.objs.size f cdv)) → sp vs H Q E →
      ∃ t, PSs (cxOf CX0 P w K mg base N qual (defScope st) f cdv A outer s H E).nox (defBody st) t ∧ t { nx := fun _ H' => Q .non H', rt := Q } (start N vs) H) : FnOk P w K mg base CX0 (k + 1) f fd ps sp := by
  obtain ⟨oc, od, kV, doc, pm, an, cdv, ct, osl, rfl, lk, hcd⟩ := F.ex
  refine fn_of lk hcd S len fun A outer s H vs Q E hr hsp => ?_
  obtain ⟨t, h, q⟩ := hbody cdv A outer s H vs Q E hr hsp
  exact ⟨t, h.nox, q⟩
/-- how its arguments bind (no defaults): h is «fun _ _ _ _ _ _ us hl => match us, hl with | [_, _], _ => rfl», one _ a parameter -/
theorem Fun.binds {x qual : Str} {st : Stmt} {f : Addr} {fd : FuncData} {ps : List Str} (F : Fun K x qual st f fd)
    (h : ∀ (kV doc pm : Value) (an : Option Addr) (cdv ct : Value) (us : List Value), us.length = ps.length → bindArgs (PySem.W.fnOf x qual (defArgs st) (defBody st) (defScope st) .none kV doc pm an cdv ct) ⟨us, []⟩ = pure (ps.zip us)) : Binds K fd ps [] := by
  obtain ⟨oc, od, kV, doc, pm, an, cdv, ct, osl, rfl, lk, hcd⟩ := F.ex
  exact .all (h kV doc pm an cdv ct)
theorem fun_mk {x qual : Str} {st : Stmt} {f : Addr} {oc : Value} {od an : Option Addr} {osl : Array (Option Value)} {kV doc pm cdv ct : Value} (l : K.lookup f = some ⟨oc, od, .func (PySem.W.fnOf x qual (defArgs st) (defBody st) (defScope st) .none kV doc pm an cdv ct), osl⟩)
    (c : PySem.W.codeIn K cdv qual = true) (k : PySem.W.keepIn K (.ref f) = true) : Fun K x qual st f (PySem.W.fnOf x qual (defArgs st) (defBody st) (defScope st) .none kV doc pm an cdv ct) := ⟨⟨oc, od, kV, doc, pm, an, cdv, ct, osl, rfl, l, c⟩, k⟩
end
theorem hu_of {A : Around} {k : Nat} (hr : Room k A) : A.units + 1 < cLine := Nat.lt_of_le_of_lt (Nat.add_le_add_left (by decide : 1 ≤ 64) _) hr.units
/-! ### expressions in short: the name that stands in the i-th slot -/
section
variable {X : Cx}
theorem pv (i : Nat) {x : Str} {pos : Pos} (hN : X.N[i]? = some x := by rfl) (hv : Vis X.env.scope x := by first | exact Or.inl rfl | exact Or.inr (Or.inl rfl) | exact Or.inr (Or.inr rfl)) (hd : (x == ("__debug__" : Str)) = false := by decide)
    (hcd : (x == ("__classdict__" : Str)) = false := by decide) : PE X (.Name x pos) (tVar i) := pe_var hN hv hd hcd
end

/-! ### tests -/
theorem iteF {A B : Prop} (h : B) : if false = true then A else B := by
  rw [if_neg Bool.false_ne_true]
  exact h
theorem iteT {A B : Prop} (h : A) : if true = true then A else B := by
  rw [if_pos rfl]
  exact h
theorem iteNS {c A B : Prop} [Decidable c] (hc : c) (h : B) : if (!decide c) = true then A else B := by
  rw [decide_eq_true hc]
  exact iteF h

/-! ### heaps -/
/-- all that was tracked is as it was -/
noncomputable def Same (H H' : Hp) : Prop := ∀ b o, H b = some o → H' b = some o
theorem Same.refl (H : Hp) : Same H H := fun _ _ h => h
theorem Same.trans {H H1 H2 : Hp} (a : Same H H1) (b : Same H1 H2) : Same H H2 := fun c o h => b c o (a c o h)
theorem Same.free {H H' : Hp} (e : Same H H') {l : Addr} (h : H' l = Option.none) : H l = Option.none := by
  cases q : H l with
  | none => rfl
  | some o =>
    rw [e l o q] at h
    cases h
theorem Same.seq {K : PySem.W.Frag} {H H' : Hp} {a : Addr} {xs : List V} (e : Same H H') (h : SqL K H a xs) : SqL K H' a xs := by
  rcases h with (h | ⟨o, h⟩) | h
  · exact .inl (.inl (e _ _ h))
  · exact .inl (.inr ⟨o, e _ _ h⟩)
  · exact .inr h

/-! ### a dict's pairs: keys that differ -/
section
variable {κ : Type} [DecidableEq κ]
theorem valV_in {kvs : List (κ × V)} {k : κ} {v : V} (h : valV kvs k = some v) : k ∈ kvs.map (·.1) := by
  have q : (kvs.any fun kv => decide (kv.1 = k)) = true := by
    rw [valV_any, h]
    all_goals rfl
  obtain ⟨p, hp, e⟩ := List.any_eq_true.mp q
  exact List.mem_map.mpr ⟨p, hp, of_decide_eq_true e⟩
end
end L2

end
section
set_option Elab.async false
set_option linter.all false
set_option maxRecDepth 100000
set_option maxHeartbeats 4000000
namespace L2
open PySem PySem.Spec PyProof.Rows

/-! ### comprehensions: the block -/
theorem closure_go (env : Env) : ∀ (names : List (Str × NameKind)) (acc : List (Str × Addr)),
    (∀ y ∈ names, y.2 = .free → ∃ c, env.cells.lookup y.1 = some c) →
    ∃ cl : List (Str × Addr), (forIn names acc fun (x : Str × NameKind) (r : List (Str × Addr)) => (match x with
        | (name, kind) => if (kind == NameKind.free) = true then do
            let a ← cellOf env name
            pure (ForInStep.yield ((name, a) :: r))
          else pure (ForInStep.yield r) : Sem (ForInStep (List (Str × Addr))))) = (pure cl : Sem (List (Str × Addr))) ∧
      (∀ x c, cl.lookup x = some c → acc.lookup x = some c ∨ env.cells.lookup x = some c) ∧
      (∀ x, (acc.lookup x).isSome = true ∨ (x, NameKind.free) ∈ names → (cl.lookup x).isSome = true)
  | [], acc, _ => ⟨acc, by simp, fun x c h => .inl h, fun x h => h.elim id fun z => nomatch z⟩
  | (n, k) :: r, acc, h => by
    by_cases hk : k = .free
    · subst hk
      obtain ⟨c, hc⟩ := h (n, .free) List.mem_cons_self rfl
      obtain ⟨cl, e, h1, h2⟩ := closure_go env r ((n, c) :: acc) fun y hy => h y (List.mem_cons_of_mem _ hy)
      refine ⟨cl, ?_, fun x c' z => ?_, fun x z => ?_⟩
      · rw [List.forIn_cons]
        have q : cellOf env n = pure c := by unfold cellOf; rw [hc]
        simp only [q, beq_self_eq_true, if_true, pure_bind]
        exact e
      · rcases h1 x c' z with z | z
        · rw [List.lookup_cons] at z
          by_cases hx : x = n
          · subst hx
            simp at z
            subst z
            exact .inr hc
          · have hb : (x == n) = false := by simpa using hx
            rw [hb] at z
            exact .inl z
        · exact .inr z
      · refine h2 x ?_
        rw [List.lookup_cons]
        by_cases hx : x = n
        · subst hx
          left
          simp
        · have hb : (x == n) = false := by simpa using hx
          rw [hb]
          rcases z with z | z
          · exact .inl z
          · rcases List.mem_cons.mp z with z | z
            · cases z
              exact absurd rfl hx
            · exact .inr z
    · obtain ⟨cl, e, h1, h2⟩ := closure_go env r acc fun y hy => h y (List.mem_cons_of_mem _ hy)
      refine ⟨cl, ?_, h1, fun x z => h2 x ?_⟩
      · rw [List.forIn_cons]
        have hb : (k == NameKind.free) = false := by simpa using hk
        simp only [hb, Bool.false_eq_true, if_false, pure_bind]
        exact e
      · rcases z with z | z
        · exact .inl z
        · rcases List.mem_cons.mp z with z | z
          · cases z
            exact absurd rfl hk
          · exact .inr z
theorem closure_of {scope : Scope} {env : Env} (h : ∀ y ∈ scope.names, y.2 = .free → ∃ c, env.cells.lookup y.1 = some c) :
    ∃ cl, closureFor scope env = pure cl ∧ (∀ x c, cl.lookup x = some c → env.cells.lookup x = some c) ∧ ∀ x, (x, NameKind.free) ∈ scope.names → ∃ c, cl.lookup x = some c := by
  obtain ⟨cl, e, h1, h2⟩ := closure_go env scope.names [] h
  refine ⟨cl, ?_, fun x c z => (h1 x c z).elim (fun q => by simp at q) id, fun x z => Option.isSome_iff_exists.mp (h2 x (.inr z))⟩
  unfold closureFor
  dsimp only
  rw [e]
  rfl

/-- the names of a block: its own, then the free ones, each at its place among the def's names -/
structure BkScope (N : List Str) (sc osc : Scope) (LN FN : List Str) (fr : List Nat) : Prop where
  kind : sc.kind = .function
  nocell : ∀ y ∈ sc.names, y.2 ≠ .cell
  names : ∀ x ∈ sc.names, x.2 = .local → sc.names.lookup x.1 = some .local
  free : ∀ y ∈ sc.names, y.2 = .free → osc.names.lookup y.1 = some .cell ∨ osc.names.lookup y.1 = some .free
  fnk : ∀ x ∈ FN, osc.names.lookup x = some .cell ∨ osc.names.lookup x = some .free
  fnf : ∀ x ∈ FN, sc.names.lookup x = some .free
  at' : FN.map some = fr.map fun j => N[j]?
theorem BkScope.place {N : List Str} {sc osc : Scope} {LN FN : List Str} {fr : List Nat} (S : BkScope N sc osc LN FN fr) {k : Nat} {x : Str} (e : FN[k]? = some x) : ∃ j : Nat, fr[k]? = some j ∧ N[j]? = some x := by
  have h := congrArg (fun l => l[k]?) S.at'
  simp only [List.getElem?_map, e, Option.map_some] at h
  cases q : fr[k]? with
  | none => rw [q] at h; cases h
  | some j =>
    rw [q] at h
    exact ⟨j, rfl, (Option.some.inj h).symm⟩
theorem BkScope.frl {N : List Str} {sc osc : Scope} {LN FN : List Str} {fr : List Nat} (S : BkScope N sc osc LN FN fr) : fr.length = FN.length := by
  have h := congrArg List.length S.at'
  simpa using h.symm

noncomputable def bkStart (LN : List Str) (fr : List Nat) (σ : St) : St := List.replicate LN.length none ++ fr.map fun j => (σ[j]?).getD none
/-- the block's context, at the entry s (behind the iterator's making), its frame at C -/
noncomputable def bkCx (X : Cx) (LN FN : List Str) (sc : Scope) (cl : List (Str × Addr)) (C : Addr) (fp : List Addr) (pins : List (Addr × Obj)) (s : Shared) (H : Hp) : Cx :=
  { X with N := LN ++ FN, s₀ := s, H₀ := H, env := compEnvC sc cl C X.env, outer := X.stack, ex := fp, fn := fun _ => false, pn := X.pn ++ pins, xe := fun _ _ => False }

theorem relabel_lookup {env : Env} : ∀ {names : List (Str × NameKind)} {x : Str} {k : NameKind},
    (names.map fun (n, k) => if (k == NameKind.free && env.scope.kind == .function && env.kindOf n == some .cell) then (n, NameKind.cell) else (n, k)).lookup x = some k →
    names.lookup x = some k ∨ (names.lookup x = some .free ∧ k = .cell)
  | [], _, _, h => by simp at h
  | (n, j) :: r, x, k, h => by
    have ih := @relabel_lookup env r x k
    have h : List.lookup x ((if (j == NameKind.free && env.scope.kind == .function && env.kindOf n == some .cell) = true then (n, NameKind.cell) else (n, j)) :: _) = some k := h
    rw [List.lookup_cons]
    by_cases hc : (j == NameKind.free && env.scope.kind == .function && env.kindOf n == some .cell) = true
    · rw [if_pos hc, List.lookup_cons] at h
      cases hx : x == n with
      | true =>
        rw [hx] at h
        simp only [Bool.and_eq_true, beq_iff_eq] at hc
        have hk : NameKind.cell = k := by simpa using h
        exact .inr ⟨by simp [hc.1.1], hk.symm⟩
      | false =>
        rw [hx] at h
        exact ih h
    · rw [if_neg hc, List.lookup_cons] at h
      cases hx : x == n with
      | true =>
        rw [hx] at h
        exact .inl h
      | false =>
        rw [hx] at h
        exact ih h

theorem bk_start {X : Cx} {pins : List (Addr × Obj)} {σ : St} {H : Hp} {s : Shared} {LN FN : List Str} {fr : List Nat} {sc : Scope} {cl : List (Str × Addr)} {C : Addr} {fp : List Addr} {h' : Heap} {tk : Nat} {m : Str → Option Value}
    (I : Inv X pins σ H s) (S : BkScope X.N sc X.env.scope LN FN fr) (hf : ∀ b ∈ fp, FpOk X pins H b) (hfs : ∀ b ∈ fp, ∃ o, s.heap.get? b = some o)
    (h1 : ∀ x c, cl.lookup x = some c → X.env.cells.lookup x = some c) (h2 : ∀ x, (x, NameKind.free) ∈ sc.names → ∃ c, cl.lookup x = some c)
    (hC : s.heap.objs.size ≤ C) (hk : ∀ b o, s.heap.get? b = some o → h'.get? b = some o) (hn : h'.Ns C m) :
    Inv (bkCx X LN FN sc cl C fp pins s H) [] (bkStart LN fr σ) H { s with heap := h', toks := tk } := by
  have hsub : ∀ b, b ∉ X.fs → b ≠ X.env.locals → b ∉ frs X.stack := fun b n1 n2 z => (List.mem_cons.mp (I.stkSub b z)).elim n2 n1
  have hlk : ∀ x k, (relabel sc X.env).names.lookup x = some k → (k = .cell ∨ k = .free) → sc.names.lookup x = some .free := fun x k e hk => by
    rcases relabel_lookup e with q | ⟨q, _⟩
    · rcases hk with rfl | rfl
      · exact absurd rfl (S.nocell _ (PySem.mem_of_lookup q))
      · exact q
    · exact q
  refine ⟨⟨I.ok.mod, ?_, I.ok.glob, I.ok.blt, hC, fun x y c e1 e2 => I.ok.inj x y c (h1 x c e1) (h1 y c e2), fun x hx => ?_, (fun x c z => absurd z (by intro z; cases z)), I.ok.hd, I.ok.frames, .inl rfl, fun b hb => ⟨?_, fun x c e z => ?_⟩, I.bs, Nat.le_trans I.ok.bsz I.sz, fun b o e hb => ?_, fun b hb => ?_, I.stack, I.stkFree⟩,
    rfl, I.bare, Un.kept hk, ⟨m, hn, fun i x v e1 e2 e3 => ?_⟩, fun x c e => ?_, ?_, fun x c e => I.freeC x c (h1 x c e), fun p hp => ?_, I.hok.kept hk, ?_⟩
  · exact S.kind
  · have hx : (relabel sc X.env).names.lookup x = some .cell ∨ (relabel sc X.env).names.lookup x = some .free := hx
    rcases hx with hx | hx
    · exact h2 x (PySem.mem_of_lookup (hlk x _ hx (.inl rfl)))
    · exact h2 x (PySem.mem_of_lookup (hlk x _ hx (.inr rfl)))
  · obtain ⟨o, e⟩ := hfs b hb
    exact Nat.ne_of_lt (Nat.lt_of_lt_of_le (Heap.lt_size e) hC)
  · exact (hf b hb).2.2.2.2.1 x c (h1 x c e) z
  · obtain ⟨_, _, _, h3, _⟩ := hf b hb
    rcases h3 with z | z
    · exact I.ok.noex b o e z
    · exact absurd (Nat.lt_of_lt_of_le (Heap.lt_size (I.ok.bs b o e).1) z) (Nat.lt_irrefl _)
  · obtain ⟨_, n1, n2, _⟩ := hf b hb
    exact hsub b n2 n1
  · -- the free names' values
    have hi : LN.length ≤ i := by
      refine Nat.le_of_not_lt fun hlt => ?_
      unfold bkStart at e2
      rw [List.getElem?_append_left (by simpa using hlt), List.getElem?_replicate] at e2
      split at e2 <;> cases e2
    have e1 : FN[i - LN.length]? = some x := by
      have e1 : (LN ++ FN)[i]? = some x := e1
      rwa [List.getElem?_append_right hi] at e1
    obtain ⟨j, ej, hj⟩ := S.place e1
    have e2 : (σ[j]?).getD none = some v := by
      unfold bkStart at e2
      rw [List.getElem?_append_right (by simpa using hi), List.length_replicate, List.getElem?_map, ej] at e2
      simpa using e2
    have e2 : σ[j]? = some (some v) := by
      cases q : σ[j]? with
      | none => rw [q] at e2; cases e2
      | some z =>
        rw [q] at e2
        exact congrArg some e2
    have hkx := S.fnk x (List.mem_of_getElem? e1)
    obtain ⟨m0, hm0, hl⟩ := I.loc
    have hv : Vis X.env.scope x := hkx.elim (fun z => .inr (.inl z)) fun z => .inr (.inr z)
    obtain ⟨u, r, l⟩ := hl j x v hj e2 hv
    refine ⟨u, r, ?_⟩
    rcases l with ⟨k1, _⟩ | ⟨_, c, ec, z⟩
    · have k1 : X.env.scope.names.lookup x = some .local := k1
      rcases hkx with q | q <;> rw [q] at k1 <;> cases k1
    · have e3 : Vis (relabel sc X.env) x := e3
      rcases e3 with q | q | q
      · -- a block's own name is none of the free ones, unless it shadows: then the kinds say local
        rcases relabel_lookup q with q' | ⟨_, q'⟩
        · rw [S.fnf x (List.mem_of_getElem? e1)] at q'
          cases q'
        · cases q'
      · obtain ⟨c', ec'⟩ := h2 x (PySem.mem_of_lookup (hlk x _ q (.inl rfl)))
        have := h1 x c' ec'
        rw [ec] at this; cases this
        exact .inr ⟨.inl q, c, ec', by obtain ⟨o, ho, hd⟩ := z; exact ⟨o, hk _ _ ho, hd⟩⟩
      · obtain ⟨c', ec'⟩ := h2 x (PySem.mem_of_lookup (hlk x _ q (.inr rfl)))
        have := h1 x c' ec'
        rw [ec] at this; cases this
        exact .inr ⟨.inr q, c, ec', by obtain ⟨o, ho, hd⟩ := z; exact ⟨o, hk _ _ ho, hd⟩⟩
  · obtain ⟨v, o, ho, hd⟩ := I.cell x c (h1 x c e)
    exact ⟨v, o, hk _ _ ho, hd⟩
  · exact I.hok.fresh hC
  · have hp : p ∈ (X.pn ++ pins) ++ [] := hp
    rw [List.append_nil] at hp
    obtain ⟨e, n, ne, nf, d⟩ := I.pin p hp
    exact ⟨hk _ _ e, n, Nat.ne_of_lt (Nat.lt_of_lt_of_le (Heap.lt_size e) hC), hsub _ nf ne, d⟩
  · unfold bkStart
    show _ = (LN ++ FN).length
    simp [S.frl]
end L2

end
section
set_option Elab.async false
set_option linter.all false
set_option maxRecDepth 100000
set_option maxHeartbeats 4000000
namespace L2
open PySem PySem.Spec PyProof.Rows

/-- the tests of a clause: none, or one -/
noncomputable def PTs (X : Cx) (ifs : List Expr) (t : TT) : Prop :=
  ∀ (pins : List (Addr × Obj)) (s : Shared) (σ : St) (H : Hp) (Q : Bool → Hp → Prop), Inv X pins σ H s → t σ H Q →
    wpAny (model X.prog X.w) X.A (forIn ifs true fun c r => if r = true then do let ok ← isTrue c X.env (eval c X.env); pure (ForInStep.yield ok) else pure (ForInStep.yield r)) (TP X pins σ Q) X.xe s
noncomputable def tTrue : TT := fun _ H Q => Q true H
theorem pts_nil {X : Cx} : PTs X [] tTrue := fun _ _ _ H _ I h => wpAny_tests_nil ⟨H, I, h⟩
theorem pts_one {X : Cx} {c : Expr} {t : TT} (h : PT X c t) : PTs X [c] t := fun pins s σ H Q I q => wpAny_tests_one (h pins s σ H Q I q)

theorem Un.track {fs ex : List Addr} {H H1 : Hp} {h h1 : Heap} {a : Addr} {o : HO} (u : Un fs ex H H1 h h1) (hp : h.objs.size ≤ a) (hn : H a = none) : Un fs ex H (upd H1 a o) h h1 where
  keep := u.keep
  slot := u.slot
  free := fun b ob q n hx => by
    rw [upd_ne (Nat.ne_of_lt (Nat.lt_of_lt_of_le (Heap.lt_size q) hp))]
    exact u.free b ob q n hx
  there := u.there
  tups := fun b xs q => by
    rw [upd_ne (fun z => by rw [z, hn] at q; cases q)]
    exact u.tups b xs q
  frzs := fun b ob x q => by
    rw [upd_ne (fun z => by rw [z, hn] at q; cases q)]
    exact u.frzs b ob x q
  tbls := fun b ps q => by
    rw [upd_ne (fun z => by rw [z, hn] at q; cases q)]
    exact u.tbls b ps q
theorem HOk.track {P : Program} {w : World} {H : Hp} {h : Heap} {a : Addr} {o : HO} (x : HOk P w H h) (hn : H a = none) (new : ObjOk P w (upd H a o) h a o) : HOk P w (upd H a o) h := fun b u e => by
  by_cases hb : b = a
  · subst hb
    rw [upd_same] at e
    cases e
    exact new
  · rw [upd_ne hb] at e
    refine (x b u e).stay (fun _ _ _ q => q) (fun c q => ?_) fun c xs q => ?_
    · rw [upd_ne (fun z => by rw [z, hn] at q; cases q)]
      exact q
    · rw [upd_ne (fun z => by rw [z, hn] at q; cases q)]
      exact q

theorem compLoop_X {EB : Value → Shared → Prop} {prog : Program} {w : World} {A : Around} {R : Result → Shared → Prop} {s : Shared} {elt target iter : Expr} {ifs : List Expr} {scope : Scope} {pos : Pos} {it acc : Value} {env : Env} (I : Nat → Shared → Prop)
    (turn : ∀ n s, I n s → wpAny (model prog w) A (pyNext it) (fun r s₁ => match r with
      | none => R (.ok .next) s₁
      | some v => wpAny (model prog w) A (letOwnedTupleGo target it v) (fun _ s₁' => wpAny (model prog w) A (assign target env v) (fun _ s₂ =>
          wpAny (model prog w) A (forIn ifs true fun c r => if r = true then do let ok ← isTrue c env (eval c env); pure (ForInStep.yield ok) else pure (ForInStep.yield r)) (fun ok s₃ =>
            if ok = true then wpAny (model prog w) A (eval elt env) (fun x s₄ =>
              wpAny (model prog w) A (call (.builtin "list.append") [acc, x]) (fun _ s₅ => ∃ m, m < n ∧ I m s₅) (fun _ _ => False) s₄) EB s₃
            else ∃ m, m < n ∧ I m s₃) (fun _ _ => False) s₂) (fun _ _ => False) s₁') (fun _ _ => False) s₁) (fun _ _ => False) s)
    (hEB : ∀ e s', EB e s' → notedBy (model prog w) A env (fun e s' => R (.error e) s') e s') (n : Nat) (h : I n s) :
    codeAny (model prog w) A (.compLoop (.ListComp elt [⟨target, iter, ifs, 0⟩] scope pos) 0 it acc env) R s := by
  refine codeAny_loop rfl I (fun n s hI => ?_) n h
  show wpAny _ A ((compTurn (.ListComp elt [⟨target, iter, ifs, 0⟩] scope pos) 0 it acc env).onRaise (fun x => do noteFrame x env; theTreesLotGoes x)) _ _ s
  refine wpAny_noted ?_
  rw [compTurn_list]
  refine wpAny_bind (wpAny_standAt (wpAny_bind (wpAny_mono (turn n s hI) (fun r s₁ h₁ => ?_) fun _ _ h' => h'.elim)))
  cases r with
  | none => exact wpAny_pure h₁
  | some v =>
    refine wpAny_bind (wpAny_mono h₁ (fun _ s₁' h₁' => ?_) fun _ _ h' => h'.elim)
    refine wpAny_bind (wpAny_mono h₁' (fun _ s₂ h₂ => wpAny_bind (wpAny_mono h₂ (fun ok s₃ h₃ => ?_) fun _ _ h' => h'.elim)) fun _ _ h' => h'.elim)
    cases ok with
    | false => exact wpAny_pure ⟨rfl, h₃⟩
    | true =>
      exact wpAny_bind (wpAny_bind (wpAny_mono h₃ (fun x s₄ h₄ => wpAny_bind (wpAny_mono h₄ (fun _ s₅ h₅ => wpAny_pure (wpAny_pure ⟨rfl, h₅⟩)) fun _ _ h' => h'.elim)) fun e s' h' => hEB e s' h'))

/-- behind the loop's raising, its names go and it is passed on -/
noncomputable def PostErr (X : Cx) (C : Addr) (e : Value) (s' : Shared) : Prop := ∃ m, s'.heap.Ns C m ∧ ∀ h', Heap.SameBut C s'.heap h' → ∀ cenv : Env, cenv.locals = C → wpAny (model X.prog X.w) X.A (PySem.passOn "comprehension.variables-let-go" e cenv : Sem Value) (fun _ _ => False) X.xe { s' with heap := h' }
noncomputable def bkXe (X : Cx) (sc : Scope) (cl : List (Str × Addr)) (C : Addr) : Value → Shared → Prop := notedBy (model X.prog X.w) X.A (compEnvC sc cl C X.env) (PostErr X C)
/-- what holds at the block's entry -/
noncomputable def BkIn (X : Cx) (C : Addr) (fp : List Addr) (pins : List (Addr × Obj)) (s : Shared) (H : Hp) : Prop := (∃ σ, Inv X pins σ H s) ∧ (∀ b ∈ fp, FpOk X pins H b) ∧ s.heap.objs.size ≤ C
/-- the block's context, where an item may raise -/
noncomputable def bkX (X : Cx) (LN FN : List Str) (sc : Scope) (cl : List (Str × Addr)) (C : Addr) (fp : List Addr) (pins : List (Addr × Obj)) (s : Shared) (H : Hp) : Cx := (bkCx X LN FN sc cl C fp pins s H).wish (bkXe X sc cl C)
section
variable {X : Cx} {tg elt iter : Expr} {ifs : List Expr} {sc : Scope} {pos : Pos} {LN FN : List Str} {fr : List Nat} {wi : TI} {g : TG} {tt : TT} {te : TE}

/-- what a comprehension wants: W by the turn, a measure, the items so far, the block's names, the heap -/
noncomputable def CW (J : It) (g : TG) (tt : TT) (te : TE) (W : Nat → Nat → List V → St → Hp → Prop) (Q : VK) : Prop :=
  ∀ i m ys σ H, W i m ys σ H →
    (J.stop i H ∧ ys.length ≤ sizeLine ∧ ∀ p, H p = none → Q (.ref p) (upd H p (.lst ys))) ∨
    (J.go i H ∧ ∃ N : List V → St → Hp → Prop, (∀ ys' σ' H', N ys' σ' H' → ∃ m', m' < m ∧ W (i + 1) m' ys' σ' H') ∧
      ∀ x H2, J.yld i H x H2 → g x σ H2 fun σ2 H3 => tt σ2 H3 fun ok H4 => if ok = true then te σ2 H4 fun y H5 => ys.length < sizeLine ∧ N (ys ++ [y]) σ2 H5 else N ys σ2 H4)
noncomputable def tComp (LN : List Str) (fr : List Nat) (wi : TI) (g : TG) (tt : TT) (te : TE) : TE := fun σ H Q => wi σ H fun J H1 =>
  ∃ W : Nat → Nat → List V → St → Hp → Prop, (∃ m, W 0 m [] (bkStart LN fr σ) H1) ∧ CW J g tt te W Q

theorem bk_runX {pins : List (Addr × Obj)} {σ : St} {H2 : Hp} {s2 : Shared} {it : Addr} {fp : List Addr} {tn : Nat → Heap → Prop} {J : It} {cl : List (Str × Addr)} {W : Nat → Nat → List V → St → Hp → Prop} {Q : VK} {m0 : Nat}
    {R : Value → Addr → Result → Shared → Prop} {E : Value → Shared → Prop}
    (hc : X.calm = true) (S : BkScope X.N sc X.env.scope LN FN fr)
    (hg : ∀ cl C fp pins s H, PG (bkCx X LN FN sc cl C fp pins s H) tg g) (ht : ∀ cl C fp pins s H, PTs (bkCx X LN FN sc cl C fp pins s H) ifs tt) (he : ∀ cl C fp pins s H, BkIn X C fp pins s H → PE (bkX X LN FN sc cl C fp pins s H) elt te)
    (h1 : ∀ x c, cl.lookup x = some c → X.env.cells.lookup x = some c) (h2 : ∀ x, (x, NameKind.free) ∈ sc.names → ∃ c, cl.lookup x = some c)
    (I2 : Inv X pins σ H2 s2) (T : Turn X.prog X.w X.K tg J fp it tn) (st2 : tn 0 s2.heap) (f2 : ∀ b ∈ fp, FpOk X pins H2 b) (w0 : W 0 m0 [] (bkStart LN fr σ) H2) (turn : CW J g tt te W Q)
    (hR : ∀ D C s' H' ys m, s'.heap.Ns C m → Inv X pins σ (upd H' D (.lst ys)) s' → FpOk X pins (upd H' D (.lst ys)) C → Q (.ref D) (upd H' D (.lst ys)) → R (.ref D) C (.ok .next) s') (hRE : ∀ D C e s', PostErr X C e s' → R (.ref D) C (.error e) s') :
    wpAny (model X.prog X.w) X.A (newList []) (fun acc s₃ => wpAny (model X.prog X.w) X.A (newFunctionEnv sc X.env.globals cl [] X.env.qual none .none (some X.env)) (fun cenv s₄ =>
      codeAny (model X.prog X.w) X.A (.compStart (.ListComp elt [⟨tg, iter, ifs, 0⟩] sc pos) 0 (.ref it) acc { cenv with scope := relabel sc X.env }) (R acc cenv.locals) s₄) E s₃) E s2 := by
  refine wpAny_newObj_type (wpAny_newFunctionEnv S.nocell (by intro y hy; simp at hy) (fun h₁ hns hsb => ?_) S.kind)
  dsimp only at hns hsb ⊢
  generalize hH2 : s2.heap.push { cls := .type "list", dict := none, data := .seq ([] : List Value).toArray } = G at hns hsb ⊢
  have hC : G.objs.size = s2.heap.objs.size + 1 := by rw [← hH2, Heap.size_push]
  have hDC : s2.heap.objs.size ≠ G.objs.size := by rw [hC]; exact Nat.ne_of_lt (Nat.lt_succ_self _)
  have hCle : s2.heap.objs.size ≤ G.objs.size := by rw [hC]; exact Nat.le_succ _
  have old : ∀ b o, s2.heap.get? b = some o → h₁.get? b = some o := fun b o e =>
    hsb.extBut b o (by rw [hC]; exact Nat.ne_of_lt (Nat.lt_succ_of_lt (Heap.lt_size e))) (Heap.get?_push_of_some _ (hH2 ▸ Heap.get?_push_of_some _ e))
  have hacc : h₁.PlainList s2.heap.objs.size #[] := ⟨_, hsb.extBut _ _ hDC (Heap.get?_push_of_some _ (hH2 ▸ Heap.get?_push_size _ rfl))⟩
  have hfs : ∀ b ∈ fp, ∃ o, s2.heap.get? b = some o := fun b hb => let ⟨o, e, _⟩ := T.obj 0 _ st2 b hb; ⟨o, e⟩
  have hflt : ∀ b ∈ fp, b < s2.heap.objs.size := fun b hb => let ⟨o, e⟩ := hfs b hb; Heap.lt_size e
  generalize hD : s2.heap.objs.size = D at *
  generalize hCC : G.objs.size = C at *
  have I0 := bk_start (LN := LN) (cl := cl) (C := C) (tk := s2.toks + ([] : List (Str × Value)).length) I2 S f2 hfs h1 h2 (by rw [hD]; exact hCle) old hns
  have hin : BkIn X C fp pins s2 H2 := ⟨⟨σ, I2⟩, f2, by rw [hD]; exact hCle⟩
  have fD : FpOk X pins H2 D := I2.fpOk (Nat.le_of_eq hD) (I2.hok.fresh (Nat.le_of_eq hD))
  -- what stays true of D and of the iterator's objects inside the block
  have stD : ∀ {pl : List (Addr × Obj)} {H' : Hp}, H' D = none → (∀ p ∈ pl, p.1 ≠ D) → FpOk (bkCx X LN FN sc cl C fp pins s2 H2) pl H' D := fun {pl H'} hn hp => by
    refine ⟨hn, hDC, fun z => ?_, .inr (Nat.le_of_eq hD), fun x c e => fD.2.2.2.2.1 x c (h1 x c e), fun p hp' => ?_⟩
    · exact (List.mem_cons.mp (I2.stkSub D z)).elim fD.2.1 fD.2.2.1
    · have hp' : p ∈ (X.pn ++ pins) ++ pl := hp'
      rcases List.mem_append.mp hp' with q | q
      · exact fD.2.2.2.2.2 p q
      · exact hp p q
  have stat : ∀ {pl : List (Addr × Obj)} {H' : Hp}, (∀ b ∈ fp, H' b = none) → (∀ p ∈ pl, p.1 = D) → ∀ b ∈ fp, FpOk (bkCx X LN FN sc cl C fp pins s2 H2) pl H' b := fun {pl H'} hn hp b hb => by
    obtain ⟨_, n1, n2, n3, n4, n5⟩ := f2 b hb
    refine ⟨hn b hb, Nat.ne_of_lt (Nat.lt_of_lt_of_le (hflt b hb) hCle), fun z => ?_, .inl hb, fun x c e => n4 x c (h1 x c e), fun p hp' => ?_⟩
    · exact (List.mem_cons.mp (I2.stkSub b z)).elim n1 n2
    · have hp' : p ∈ (X.pn ++ pins) ++ pl := hp'
      rcases List.mem_append.mp hp' with q | q
      · exact n5 p q
      · rw [hp p q]
        exact Nat.ne_of_gt (hflt b hb)
  have pinD : ∀ {s' : Shared}, ∀ p ∈ pinsAt [D] s'.heap, p.1 = D := fun p hp => by simpa using (of_pinsAt hp).1
  have key : ∀ s₄ : Shared, s₄ = { s2 with heap := h₁, toks := s2.toks + ([] : List (Str × Value)).length } →
      codeAny (model X.prog X.w) X.A (.compLoop (.ListComp elt [⟨tg, iter, ifs, 0⟩] sc pos) 0 (.ref it) (.ref D) (compEnvC sc cl C X.env)) (R (.ref D) C) s₄ := by
    rintro s₄ rfl
    refine compLoop_X (EB := bkXe X sc cl C) (fun n s' => ∃ i ys σ' H' its, Inv (bkCx X LN FN sc cl C fp pins s2 H2) [] σ' H' s' ∧ tn i s'.heap ∧ (∀ b ∈ fp, H' b = none) ∧ W i n ys σ' H' ∧ Vals ys its ∧ s'.heap.PlainList D its.toArray ∧ H' D = none) ?_ (fun e s' h' => wpAny_mono h' (fun _ s'' q => hRE D C e s'' q) fun e' s'' q => hRE D C e' s'' q) m0
      ⟨0, [], _, H2, [], I0, T.keep _ _ _ st2 (fun b _ o e => old b o e), fun b hb => (f2 b hb).1, w0, .nil, hacc, fD.1⟩
    rintro n s3 ⟨i, ys, σ3, H3, its, I3, st3, fr3, w3, rv, pl, nD⟩
    have plo : ∃ o, s3.heap.get? D = some o ∧ ∀ v, o.data ≠ .cell v := by
      obtain ⟨k, e⟩ := pl
      exact ⟨_, e, fun v z => by cases z⟩
    have I3' : Inv (bkCx X LN FN sc cl C fp pins s2 H2) ([] ++ pinsAt [D] s3.heap) σ3 H3 s3 := I3.pinned (fp := [D]) (fun b hb => by
      obtain rfl : b = D := by simpa using hb
      exact stD nD (fun _ z => nomatch z)) (fun b hb => by
      obtain rfl : b = D := by simpa using hb
      exact plo)
    have I3' : Inv (bkCx X LN FN sc cl C fp pins s2 H2) (pinsAt [D] s3.heap) σ3 H3 s3 := I3'
    have keepD : ∀ {pl' : List (Addr × Obj)} {σ' : St} {H' : Hp} {s' : Shared}, Inv (bkCx X LN FN sc cl C fp pins s2 H2) (pinsAt [D] s3.heap ++ pl') σ' H' s' → s'.heap.PlainList D its.toArray ∧ H' D = none := fun {pl' σ' H' s'} J => by
      obtain ⟨k, e⟩ := pl
      have := J.pin (D, _) (List.mem_append_right _ (List.mem_append_left _ (mem_pinsAt (by simp) e)))
      exact ⟨⟨k, this.1⟩, this.2.1⟩
    have keepD0 : ∀ {σ' : St} {H' : Hp} {s' : Shared}, Inv (bkCx X LN FN sc cl C fp pins s2 H2) (pinsAt [D] s3.heap) σ' H' s' → s'.heap.PlainList D its.toArray ∧ H' D = none := fun {σ' H' s'} J => by
      refine keepD (pl' := []) (σ' := σ') ?_
      rw [List.append_nil]
      exact J
    rcases turn i n ys σ3 H3 w3 with ⟨stop, hlen, q⟩ | ⟨go, N, hN, step⟩
    · refine thn (T.done (bkCx X LN FN sc cl C fp pins s2 H2) rfl rfl rfl hc i (pinsAt [D] s3.heap) s3 σ3 H3 _ I3' (stat fr3 (fun p hp => pinD (s' := s3) p hp)) st3 stop) fun r s4 ⟨hr, I4⟩ => ?_
      subst hr
      obtain ⟨pl4, n4⟩ := keepD0 I4
      have u4 : Un (frs X.stack) fp H2 (upd H3 D (.lst ys)) s2.heap s4.heap := Un.track I4.base (Nat.le_of_eq hD) fD.1
      have nC : H3 C = none := I4.free
      have o4 : HOk X.prog X.w (upd H3 D (.lst ys)) s4.heap := HOk.track I4.hok n4 (by
        obtain ⟨k, e⟩ := pl4
        exact ⟨hlen, its, k, rv, e⟩)
      have J : Inv X pins σ (upd H3 D (.lst ys)) s4 := I2.call' (s' := s4) (ch := fp) I4.os u4 o4 I4.bare fun b hb => by
        obtain ⟨_, n1, n2, n3, n4, n5⟩ := f2 b hb
        exact ⟨n3, n1, n4, n5⟩
      obtain ⟨m, hm, _⟩ := I4.loc
      exact hR D C s4 H3 ys m hm J (I2.fpOk (by rw [hD]; exact hCle) (by rw [upd_ne (Ne.symm hDC)]; exact nC)) (q D n4)
    · refine thn (T.item (bkCx X LN FN sc cl C fp pins s2 H2) rfl rfl rfl hc i (pinsAt [D] s3.heap) s3 σ3 H3 _ I3' (stat fr3 (fun p hp => pinD (s' := s3) p hp)) st3 go) fun r s4 ⟨u, hr, h4⟩ => ?_
      subst hr
      refine thn h4 fun _ s5 ⟨x, H5, I5, r5, y5, st5, fr5⟩ => ?_
      have I5' := I5.pinned (stat fr5 (fun p hp => pinD (s' := s3) p hp)) (T.obj _ _ st5)
      refine thn (hg cl C fp pins s2 H2 _ s5 σ3 H5 x u _ I5' r5 (step x H5 y5)) fun _ s6 ⟨σ6, H6, I6, q6⟩ => ?_
      refine thn (ht cl C fp pins s2 H2 _ s6 σ6 H6 _ I6 q6) fun ok s7 ⟨H7, I7, q7⟩ => ?_
      have again : ∀ {s' : Shared} {H' : Hp}, Inv (bkCx X LN FN sc cl C fp pins s2 H2) (pinsAt [D] s3.heap ++ pinsAt fp s5.heap) σ6 H' s' → tn (i + 1) s'.heap ∧ ∀ b ∈ fp, H' b = none := fun {s' H'} J => by
        refine ⟨T.keep _ _ _ st5 fun b hb o e => (J.pin (b, o) (List.mem_append_right _ (List.mem_append_right _ (mem_pinsAt hb e)))).1, fun b hb => ?_⟩
        obtain ⟨o, e, d⟩ := T.obj _ _ st5 b hb
        exact (J.pin (b, o) (List.mem_append_right _ (List.mem_append_right _ (mem_pinsAt hb e)))).2.1
      have bare : ∀ {s' : Shared} {H' : Hp}, Inv (bkCx X LN FN sc cl C fp pins s2 H2) (pinsAt [D] s3.heap ++ pinsAt fp s5.heap) σ6 H' s' → Inv (bkCx X LN FN sc cl C fp pins s2 H2) [] σ6 H' s' := fun J => J.pins_of fun p hp => nomatch hp
      cases ok with
      | false =>
        rw [if_neg Bool.false_ne_true] at q7 ⊢
        obtain ⟨m', hm, w7⟩ := hN ys σ6 H7 q7
        obtain ⟨pl7, n7⟩ := keepD I7
        exact ⟨m', hm, i + 1, ys, σ6, H7, its, bare I7, (again I7).1, (again I7).2, w7, rv, pl7, n7⟩
      | true =>
        rw [if_pos rfl] at q7 ⊢
        refine wpAny_mono (he cl C fp pins s2 H2 hin _ s7 σ6 H7 _ (I7.wish _) q7) (fun v s8 hz8 => ?_) fun _ _ z => z
        obtain ⟨y, H8, I8, r8, hl8, q8⟩ := hz8
        have I8 := I8.unwish
        obtain ⟨m', hm, w8⟩ := hN _ σ6 H8 q8
        obtain ⟨pl8, n8⟩ := keepD I8
        obtain ⟨t8, f8⟩ := again I8
        have hsz : its.toArray.size ≤ sizeLine := by
          have := rv.length
          rw [List.size_toArray, ← this]
          exact Nat.le_of_lt hl8
        refine wpAny_list_append_plain pl8 (fun h' pl' sb => ?_) hsz
        refine ⟨m', hm, i + 1, ys ++ [y], σ6, H8, its ++ [v], ?_, ?_, f8, w8, rv.append (.cons r8 .nil), ?_, n8⟩
        · obtain ⟨d0, d1, d2, d3, d4, d5⟩ := stD (pl := []) n8 (fun _ z => nomatch z)
          exact (bare I8).turned (t' := s8.toks) (fun b o hb e => (sb.2 b hb).trans e) d0 d1 d3 d4 d5
        · exact T.keep _ _ _ t8 fun b hb o e => (sb.2 b (Nat.ne_of_lt (hflt b hb))).trans e
        · simpa using pl'
  exact codeAny_compStart_list (key _ rfl) (T.self _ 0 _ _ _ (T.keep _ _ _ st2 fun b _ o e => old b o e) (key _ rfl))

/-- where nothing is raised, anything may be asked of what is -/
theorem PE.any {E : Value → Shared → Prop} {e : Expr} {t : TE} (h : PE X e t) (hx : X.xe = fun _ _ => False) : PE (X.wish E) e t := by
  intro pins s σ H Q I q
  refine wpAny_mono (h pins s σ H Q I.unwish q) (fun v s1 h1 => ?_) (fun _ _ z => by rw [hx] at z; exact z.elim)
  obtain ⟨y, H1, I1, r1, q1⟩ := h1
  exact ⟨y, H1, I1.wish E, r1, q1⟩
/-- [elt for tg in iter if ..] -/
theorem pe_comp (hc : X.calm = true) (S : BkScope X.N sc X.env.scope LN FN fr) (hi : PI X tg iter wi)
    (hg : ∀ cl C fp pins s H, PG (bkCx X LN FN sc cl C fp pins s H) tg g) (ht : ∀ cl C fp pins s H, PTs (bkCx X LN FN sc cl C fp pins s H) ifs tt) (he : ∀ cl C fp pins s H, PE (bkCx X LN FN sc cl C fp pins s H) elt te)
    (hs : ∀ x, foldedSetIterable iter X.env x = pure x := by intro _; rfl) : PE X (.ListComp elt [⟨tg, iter, ifs, 0⟩] sc pos) (tComp LN fr wi g tt te) := by
  intro pins s σ H Q I h
  rw [eval_ListComp]
  obtain ⟨cl, ecl, h1, h2⟩ := closure_of (scope := sc) (env := X.env) fun y hy hk => I.ok.has y.1 (S.free y hy hk)
  refine wpAny_comprehension_free (use := none) rfl hs ecl S.kind S.names (thn (hi pins s σ H _ I h) fun v s1 q1 => thn q1 fun itv s2 q2 => ?_)
  obtain ⟨it, fp, tn, J, H2, e, I2, T, st2, f2, W, ⟨m0, w0⟩, turn⟩ := q2
  subst e
  refine bk_runX (R := fun acc C => compPost (model X.prog X.w) X.A X.xe none (EP X pins σ Q) acc C) hc S hg ht (fun cl C fp pins s H _ => (he cl C fp pins s H).any rfl) h1 h2 I2 T st2 f2 w0 turn (fun D C s' H' ys m hn J fC q => ?_) (fun _ _ _ _ z => z)
  refine ⟨m, hn, fun h' sb => ⟨.ref D, _, J.turned (t' := s'.toks) (fun b o hb e => (sb.2 b hb).trans e) fC.1 fC.2.1 fC.2.2.2.1 fC.2.2.2.2.1 fC.2.2.2.2.2, rfl, q⟩⟩

/-- name = [elt for tg in iter if ..], the store ahead of the block's end -/
theorem ps_setc {i : Nat} {x : Str} {pos' pos2 : Pos} (hc : X.calm = true) (hN : X.N.Nodup) (hix : X.N[i]? = some x) (hx : X.env.scope.names.lookup x = some .local) (S : BkScope X.N sc X.env.scope LN FN fr) (hi : PI X tg iter wi)
    (hg : ∀ cl C fp pins s H, PG (bkCx X LN FN sc cl C fp pins s H) tg g) (ht : ∀ cl C fp pins s H, PTs (bkCx X LN FN sc cl C fp pins s H) ifs tt) (he : ∀ cl C fp pins s H, PE (bkCx X LN FN sc cl C fp pins s H) elt te)
    (hsw : swapsWith (.ListComp elt [⟨tg, iter, ifs, 0⟩] sc pos) (some (.Name x pos')) pos2.line X.env = pure true := by rfl)
    (hs : ∀ x, foldedSetIterable iter X.env x = pure x := by intro _; rfl) : PS X (.Assign [.Name x pos'] (.ListComp elt [⟨tg, iter, ifs, 0⟩] sc pos) pos2) (tAsg (tComp LN fr wi g tt te) (gName i)) := by
  intro pins s σ H D0 I h
  rw [exec_Assign_Name_used _ _ _ _ hsw]
  refine wpAny_bind (wpAny_standAt (wpAny_bind ?_))
  show wpAny _ X.A (do let _ ← comprehension (.ListComp elt [⟨tg, iter, ifs, 0⟩] sc pos) sc X.env _ (newList []) false (eval iter X.env) (some (assign (.Name x pos') X.env))) _ _ s
  obtain ⟨cl, ecl, h1, h2⟩ := closure_of (scope := sc) (env := X.env) fun y hy hk => I.ok.has y.1 (S.free y hy hk)
  refine wpAny_bind (wpAny_mono (wpAny_comprehension_free (use := some (assign (.Name x pos') X.env)) (Q := fun _ s' => SP X pins D0 .next s') rfl hs ecl S.kind S.names (thn (hi pins s σ H _ I h) fun v s1 q1 => thn q1 fun itv s2 q2 => ?_))
    (fun _ s' hq => wpAny_pure (wpAny_pure hq)) fun _ _ e => e)
  obtain ⟨it, fp, tn, J, H2, e, I2, T, st2, f2, W, ⟨m0, w0⟩, turn⟩ := q2
  subst e
  refine bk_runX (R := fun acc C => compPost (model X.prog X.w) X.A X.xe (some (assign (.Name x pos') X.env)) (fun _ s' => SP X pins D0 .next s') acc C) hc S hg ht (fun cl C fp pins s H _ => (he cl C fp pins s H).any rfl) h1 h2 I2 T st2 f2 w0 turn (fun D C s' H' ys m hn J fC q => ?_) (fun _ _ _ _ z => z)
  show wpAny _ X.A (assign (.Name x pos') X.env (.ref D)) _ _ s'
  refine wpAny_assign_Name (store_ok2 J hN hix (.inl hx) (show RelV (.ref D) (.ref D) from rfl) (fun s'' J2 ⟨a, sb2, ha⟩ => ?_) (.inr hx))
  have nCa : C ≠ a := by
    rcases ha with z | z
    · rw [z]; exact fC.2.1
    · exact fun q => fC.2.2.2.2.1 x a z q.symm
  refine ⟨m, hn.sameBut sb2 nCa, fun h' sb => ⟨_, _, J2.turned (t' := s''.toks) (fun b o hb e => (sb.2 b hb).trans e) fC.1 fC.2.1 fC.2.2.2.1 fC.2.2.2.2.1 fC.2.2.2.2.2, q⟩⟩
end
end L2

end
section
set_option Elab.async false
set_option linter.all false
set_option maxRecDepth 100000
set_option maxHeartbeats 4000000
namespace L2
open PySem PySem.Spec PyProof.Rows

/-! ### data: what a value stands for, by tuples that never change -/
inductive D where
  | non | bl (b : Bool) | int (i : Int) | str (x : Str) | tup (ds : List D)
mutual
noncomputable def Rep (H : Hp) : D → V → Prop
  | .non, v => v = .non
  | .bl b, v => v = .bl b
  | .int i, v => v = .int i
  | .str x, v => v = .str x
  | .tup ds, v => ∃ a xs, v = .ref a ∧ H a = some (.tup xs) ∧ Reps H ds xs
noncomputable def Reps (H : Hp) : List D → List V → Prop
  | [], vs => vs = []
  | d :: ds, vs => ∃ v r, vs = v :: r ∧ Rep H d v ∧ Reps H ds r
end
/-- tuples stay -/
noncomputable def TSame (H H' : Hp) : Prop := ∀ a xs, H a = some (.tup xs) → H' a = some (.tup xs)
theorem Same.ts {H H' : Hp} (h : Same H H') : TSame H H' := fun a xs e => h a _ e
theorem Same.new {H : Hp} {a : Addr} {o : HO} (h : H a = none) : Same H (upd H a o) := fun b u e => by rw [upd_ne (ne_of_none e h)]; exact e
/-- an object that is no tuple is written -/
theorem TSame.wr {H : Hp} {a : Addr} {o : HO} (h : ∀ xs, H a ≠ some (.tup xs)) : TSame H (upd H a o) := fun b xs e => by
  rw [upd_ne (fun z => by subst z; exact h xs e)]
  exact e
mutual
theorem Rep.mono {H H' : Hp} (t : TSame H H') : ∀ {d : D} {v : V}, Rep H d v → Rep H' d v
  | .non, _, h => by simpa [Rep] using h
  | .bl _, _, h => by simpa [Rep] using h
  | .int _, _, h => by simpa [Rep] using h
  | .str _, _, h => by simpa [Rep] using h
  | .tup ds, v, h => by
    rw [Rep] at h ⊢
    obtain ⟨a, xs, e, ha, r⟩ := h
    exact ⟨a, xs, e, t a xs ha, Reps.mono t r⟩
theorem Reps.mono {H H' : Hp} (t : TSame H H') : ∀ {ds : List D} {vs : List V}, Reps H ds vs → Reps H' ds vs
  | [], _, h => by simpa [Reps] using h
  | d :: ds, vs, h => by
    rw [Reps] at h ⊢
    obtain ⟨v, r, e, h1, h2⟩ := h
    exact ⟨v, r, e, Rep.mono t h1, Reps.mono t h2⟩
end
theorem rep_int {H : Hp} {i : Int} : Rep H (.int i) (.int i) := by rw [Rep]
theorem rep_tup {H : Hp} {a : Addr} {xs : List V} {ds : List D} (h : H a = some (.tup xs)) (r : Reps H ds xs) : Rep H (.tup ds) (.ref a) := by rw [Rep]; exact ⟨a, xs, rfl, h, r⟩
theorem reps_nil {H : Hp} : Reps H [] [] := by rw [Reps]
theorem reps_cons {H : Hp} {d : D} {ds : List D} {v : V} {vs : List V} (h : Rep H d v) (r : Reps H ds vs) : Reps H (d :: ds) (v :: vs) := by rw [Reps]; exact ⟨v, vs, rfl, h, r⟩
theorem rep_int_inv {H : Hp} {i : Int} {v : V} (h : Rep H (.int i) v) : v = .int i := by rwa [Rep] at h
theorem rep_tup_inv {H : Hp} {v : V} {ds : List D} (h : Rep H (.tup ds) v) : ∃ a xs, v = .ref a ∧ H a = some (.tup xs) ∧ Reps H ds xs := by rwa [Rep] at h
theorem reps_nil_inv {H : Hp} {vs : List V} (h : Reps H [] vs) : vs = [] := by rwa [Reps] at h
theorem reps_cons_inv {H : Hp} {d : D} {ds : List D} {vs : List V} (h : Reps H (d :: ds) vs) : ∃ v r, vs = v :: r ∧ Rep H d v ∧ Reps H ds r := by rwa [Reps] at h
theorem Reps.length {H : Hp} : ∀ {ds : List D} {vs : List V}, Reps H ds vs → ds.length = vs.length
  | [], vs, h => by rw [reps_nil_inv h]; rfl
  | d :: ds, vs, h => by
    obtain ⟨v, r, rfl, _, h2⟩ := reps_cons_inv h
    simp [Reps.length h2]
theorem Reps.get {H : Hp} : ∀ {ds : List D} {vs : List V} {i : Nat} {d : D}, Reps H ds vs → ds[i]? = some d → ∃ v, vs[i]? = some v ∧ Rep H d v
  | [], vs, i, d, h, e => by simp at e
  | d :: ds, vs, 0, d', h, e => by
    obtain ⟨v, r, rfl, h1, h2⟩ := reps_cons_inv h
    simp at e; subst e
    exact ⟨v, rfl, h1⟩
  | d :: ds, vs, i + 1, d', h, e => by
    obtain ⟨v, r, rfl, h1, h2⟩ := reps_cons_inv h
    obtain ⟨u, e1, e2⟩ := Reps.get (i := i) (d := d') h2 (by simpa using e)
    exact ⟨u, by simpa using e1, e2⟩
theorem Reps.get' {H : Hp} {ds : List D} {vs : List V} {i : Nat} {v : V} (h : Reps H ds vs) (e : vs[i]? = some v) : ∃ d, ds[i]? = some d ∧ Rep H d v := by
  have hl := h.length
  have hi : i < vs.length := (List.getElem?_eq_some_iff.mp e).1
  obtain ⟨u, e1, e2⟩ := h.get (i := i) (d := ds[i]'(by omega)) (List.getElem?_eq_getElem (by omega))
  rw [e] at e1; cases e1
  exact ⟨_, List.getElem?_eq_getElem (by omega), e2⟩
theorem Reps.append {H : Hp} : ∀ {ds es : List D} {vs ws : List V}, Reps H ds vs → Reps H es ws → Reps H (ds ++ es) (vs ++ ws)
  | [], es, vs, ws, h, r => by rw [reps_nil_inv h]; exact r
  | d :: ds, es, vs, ws, h, r => by
    obtain ⟨v, q, rfl, h1, h2⟩ := reps_cons_inv h
    exact reps_cons h1 (Reps.append h2 r)
theorem reps_ints {H : Hp} : ∀ {ns : List Int} {vs : List V}, Reps H (ns.map D.int) vs → vs = ns.map V.int
  | [], vs, h => reps_nil_inv h
  | n :: ns, vs, h => by
    obtain ⟨v, r, rfl, h1, h2⟩ := reps_cons_inv h
    rw [rep_int_inv h1, reps_ints h2]
    rfl
mutual
noncomputable def D.pl : D → Bool
  | .bl _ => false
  | .tup ds => D.pls ds
  | _ => true
noncomputable def D.pls : List D → Bool
  | [] => true
  | d :: ds => d.pl && D.pls ds
end
mutual
noncomputable def D.dep : D → Nat
  | .tup ds => D.deps ds + 1
  | _ => 0
noncomputable def D.deps : List D → Nat
  | [] => 0
  | d :: ds => max d.dep (D.deps ds)
end
theorem D.pls_get : ∀ {ds : List D} {i : Nat} {d : D}, D.pls ds = true → ds[i]? = some d → d.pl = true
  | [], i, d, _, e => by simp at e
  | d :: ds, 0, d', h, e => by
    simp at e; subst e
    rw [D.pls, Bool.and_eq_true] at h
    exact h.1
  | d :: ds, i + 1, d', h, e => by
    rw [D.pls, Bool.and_eq_true] at h
    exact D.pls_get (i := i) h.2 (by simpa using e)
theorem D.deps_get : ∀ {ds : List D} {i : Nat} {d : D}, ds[i]? = some d → d.dep ≤ D.deps ds
  | [], i, d, e => by simp at e
  | d :: ds, 0, d', e => by
    simp at e; subst e
    rw [D.deps]; omega
  | d :: ds, i + 1, d', e => by
    have := D.deps_get (ds := ds) (i := i) (d := d') (by simpa using e)
    rw [D.deps]; omega
open Classical in
noncomputable def eqD (d e : D) : Bool := decide (d = e)
theorem eqD_true {d e : D} : eqD d e = true ↔ d = e := by unfold eqD; simp
theorem eqD_same {d : D} : eqD d d = true := eqD_true.mpr rfl
theorem eqD_false {d e : D} (h : d ≠ e) : eqD d e = false := by unfold eqD; simp [h]
theorem eqD_int {i j : Int} : eqD (.int i) (.int j) = (i == j) := by
  by_cases h : i = j
  · subst h; rw [eqD_same]; simp
  · rw [eqD_false (by intro z; cases z; exact h rfl)]; simp [h]
theorem eqD_str {i j : Str} : eqD (.str i) (.str j) = (i == j) := by
  by_cases h : i = j
  · subst h; rw [eqD_same]; simp
  · rw [eqD_false (by intro z; cases z; exact h rfl)]; simp [h]
noncomputable def eqAtJ (ds es : List D) (f : D → D → Bool) (j : Nat) : Bool := match ds[j]?, es[j]? with | some a, some b => f a b | _, _ => false
theorem eqD_tup {ds es : List D} : ((List.range (min ds.length es.length)).all (eqAtJ ds es eqD) && ds.length == es.length) = eqD (.tup ds) (.tup es) := by
  by_cases h : ds = es
  · subst h
    rw [eqD_same]
    simp only [beq_self_eq_true, Bool.and_true, List.all_eq_true, List.mem_range]
    intro j hj
    have hj : j < ds.length := by omega
    unfold eqAtJ
    rw [List.getElem?_eq_getElem hj]
    exact eqD_same
  · rw [eqD_false (by intro z; cases z; exact h rfl)]
    by_cases hl : ds.length = es.length
    · rw [Bool.and_eq_false_iff]
      left
      rw [← Bool.not_eq_true]
      intro hall
      apply h
      refine List.ext_getElem? fun j => ?_
      by_cases hj : j < ds.length
      · have hj' : j < es.length := by omega
        have := List.all_eq_true.mp hall j (List.mem_range.mpr (by omega))
        unfold eqAtJ at this
        rw [List.getElem?_eq_getElem hj, List.getElem?_eq_getElem hj'] at this
        rw [List.getElem?_eq_getElem hj, List.getElem?_eq_getElem hj', eqD_true.mp this]
      · rw [List.getElem?_eq_none (by omega), List.getElem?_eq_none (by omega)]
    · rw [Bool.and_eq_false_iff]
      right
      simpa using hl
section
variable {X : Cx} {pins : List (Addr × Obj)} {σ : St} {H : Hp} {s : Shared}
theorem Inv.isTup (I : Inv X pins σ H s) {a : Addr} {xs : List V} (h : H a = some (.tup xs)) : ∃ its : List Value, Vals xs its ∧ s.heap.IsTuple a its.toArray := by
  obtain ⟨_, its, r, p⟩ := (show ObjOk X.prog X.w H s.heap a (.tup xs) from I.hok a _ h)
  exact ⟨its, r, p⟩
theorem eqAt_flat (I : Inv X pins σ H s) {d e : D} {x y : V} {u v : Value} {A : Around} (hd : d.dep = 0) (pd : d.pl = true) (pe : e.pl = true) (rd : Rep H d x) (re : Rep H e y) (ru : RelV x u) (rv : RelV y v) (hu : A.units < cLine) : SeqAt.EqAt A s u v (eqD d e) := by
  cases d with
  | tup ds => rw [D.dep] at hd; omega
  | bl b => simp [D.pl] at pd
  | non =>
    rw [Rep] at rd; subst rd; cases ru
    cases e with
    | bl b => simp [D.pl] at pe
    | non => rw [Rep] at re; subst re; cases rv; rw [eqD_same]; exact SeqAt.EqAt.same _
    | int b => rw [Rep] at re; subst re; obtain ⟨t, rfl⟩ := rv; rw [eqD_false (by intro z; cases z)]; exact SeqAt.EqAt.none_int b t
    | str b => rw [Rep] at re; subst re; obtain ⟨t, rfl⟩ := rv; rw [eqD_false (by intro z; cases z)]; exact SeqAt.EqAt.none_str b t
    | tup es =>
      rw [Rep] at re
      obtain ⟨a, xs, rfl, ha, _⟩ := re
      cases rv
      obtain ⟨its, _, ht⟩ := I.isTup ha
      rw [eqD_false (by intro z; cases z)]
      exact SeqAt.EqAt.none_tuple ht hu
  | int i =>
    rw [Rep] at rd; subst rd; obtain ⟨t, rfl⟩ := ru
    cases e with
    | bl b => simp [D.pl] at pe
    | non => rw [Rep] at re; subst re; cases rv; rw [eqD_false (by intro z; cases z)]; exact SeqAt.EqAt.int_none i t
    | int b => rw [Rep] at re; subst re; obtain ⟨t', rfl⟩ := rv; rw [eqD_int]; exact SeqAt.EqAt.int_int i t b t'
    | str b => rw [Rep] at re; subst re; obtain ⟨t', rfl⟩ := rv; rw [eqD_false (by intro z; cases z)]; exact SeqAt.EqAt.int_str i t b t'
    | tup es =>
      rw [Rep] at re
      obtain ⟨a, xs, rfl, ha, _⟩ := re
      cases rv
      obtain ⟨its, _, ht⟩ := I.isTup ha
      rw [eqD_false (by intro z; cases z)]
      exact SeqAt.EqAt.int_tuple i t ht hu
  | str i =>
    rw [Rep] at rd; subst rd; obtain ⟨t, rfl⟩ := ru
    cases e with
    | bl b => simp [D.pl] at pe
    | non => rw [Rep] at re; subst re; cases rv; rw [eqD_false (by intro z; cases z)]; exact SeqAt.EqAt.str_none i t
    | int b => rw [Rep] at re; subst re; obtain ⟨t', rfl⟩ := rv; rw [eqD_false (by intro z; cases z)]; exact SeqAt.EqAt.str_int i t b t'
    | str b => rw [Rep] at re; subst re; obtain ⟨t', rfl⟩ := rv; rw [eqD_str]; exact SeqAt.EqAt.str_str i t b t'
    | tup es =>
      rw [Rep] at re
      obtain ⟨a, xs, rfl, ha, _⟩ := re
      cases rv
      obtain ⟨its, _, ht⟩ := I.isTup ha
      rw [eqD_false (by intro z; cases z)]
      exact SeqAt.EqAt.str_tuple i t ht hu
mutual
theorem Rep.inj {H : Hp} : ∀ {d e : D} {v : V}, Rep H d v → Rep H e v → d = e
  | .non, .non, _, _, _ => rfl
  | .bl a, .bl b, v, h, h' => by simp only [Rep] at h h'; rw [h] at h'; cases h'; rfl
  | .int a, .int b, v, h, h' => by simp only [Rep] at h h'; rw [h] at h'; cases h'; rfl
  | .str a, .str b, v, h, h' => by simp only [Rep] at h h'; rw [h] at h'; cases h'; rfl
  | .tup ds, .tup es, v, h, h' => by
    rw [Rep] at h h'
    obtain ⟨a, xs, rfl, ha, r⟩ := h
    obtain ⟨b, ys, e, hb, r'⟩ := h'
    cases e
    rw [ha] at hb; cases hb
    rw [Reps.inj r r']
  | .non, .bl _, v, h, h' => by simp only [Rep] at h h'; rw [h] at h'; cases h'
  | .non, .int _, v, h, h' => by simp only [Rep] at h h'; rw [h] at h'; cases h'
  | .non, .str _, v, h, h' => by simp only [Rep] at h h'; rw [h] at h'; cases h'
  | .non, .tup _, v, h, h' => by simp only [Rep] at h h'; obtain ⟨_, _, e, _⟩ := h'; rw [h] at e; cases e
  | .bl _, .non, v, h, h' => by simp only [Rep] at h h'; rw [h] at h'; cases h'
  | .bl _, .int _, v, h, h' => by simp only [Rep] at h h'; rw [h] at h'; cases h'
  | .bl _, .str _, v, h, h' => by simp only [Rep] at h h'; rw [h] at h'; cases h'
  | .bl _, .tup _, v, h, h' => by simp only [Rep] at h h'; obtain ⟨_, _, e, _⟩ := h'; rw [h] at e; cases e
  | .int _, .non, v, h, h' => by simp only [Rep] at h h'; rw [h] at h'; cases h'
  | .int _, .bl _, v, h, h' => by simp only [Rep] at h h'; rw [h] at h'; cases h'
  | .int _, .str _, v, h, h' => by simp only [Rep] at h h'; rw [h] at h'; cases h'
  | .int _, .tup _, v, h, h' => by simp only [Rep] at h h'; obtain ⟨_, _, e, _⟩ := h'; rw [h] at e; cases e
  | .str _, .non, v, h, h' => by simp only [Rep] at h h'; rw [h] at h'; cases h'
  | .str _, .bl _, v, h, h' => by simp only [Rep] at h h'; rw [h] at h'; cases h'
  | .str _, .int _, v, h, h' => by simp only [Rep] at h h'; rw [h] at h'; cases h'
  | .str _, .tup _, v, h, h' => by simp only [Rep] at h h'; obtain ⟨_, _, e, _⟩ := h'; rw [h] at e; cases e
  | .tup _, .non, v, h, h' => by simp only [Rep] at h h'; obtain ⟨_, _, e, _⟩ := h; rw [h'] at e; cases e
  | .tup _, .bl _, v, h, h' => by simp only [Rep] at h h'; obtain ⟨_, _, e, _⟩ := h; rw [h'] at e; cases e
  | .tup _, .int _, v, h, h' => by simp only [Rep] at h h'; obtain ⟨_, _, e, _⟩ := h; rw [h'] at e; cases e
  | .tup _, .str _, v, h, h' => by simp only [Rep] at h h'; obtain ⟨_, _, e, _⟩ := h; rw [h'] at e; cases e
theorem Reps.inj {H : Hp} : ∀ {ds es : List D} {vs : List V}, Reps H ds vs → Reps H es vs → ds = es
  | [], [], _, _, _ => rfl
  | [], e :: es, vs, h, h' => by rw [reps_nil_inv h] at h'; obtain ⟨_, _, z, _⟩ := reps_cons_inv h'; cases z
  | d :: ds, [], vs, h, h' => by rw [reps_nil_inv h'] at h; obtain ⟨_, _, z, _⟩ := reps_cons_inv h; cases z
  | d :: ds, e :: es, vs, h, h' => by
    obtain ⟨v, r, rfl, h1, h2⟩ := reps_cons_inv h
    obtain ⟨v', r', z, h1', h2'⟩ := reps_cons_inv h'
    cases z
    rw [Rep.inj h1 h1', Reps.inj h2 h2']
end
theorem eqAt_D (I : Inv X pins σ H s) : ∀ (n : Nat) {d e : D} {x y : V} {u v : Value} {A : Around}, d.dep ≤ n → d.pl = true → e.pl = true → Rep H d x → Rep H e y → RelV x u → RelV y v → A.units + n < cLine → SeqAt.EqAt A s u v (eqD d e) := by
  intro n
  induction n with
  | zero =>
    intro d e x y u v A hn pd pe rd re ru rv hu
    exact eqAt_flat I (by omega) pd pe rd re ru rv (by omega)
  | succ n ih =>
    intro d e x y u v A hn pd pe rd re ru rv hu
    by_cases h0 : d.dep = 0
    · exact eqAt_flat I h0 pd pe rd re ru rv (by omega)
    · cases d with
      | non => simp [D.dep] at h0
      | bl _ => simp [D.dep] at h0
      | int _ => simp [D.dep] at h0
      | str _ => simp [D.dep] at h0
      | tup ds =>
        obtain ⟨a, xs, rfl, ha, r⟩ := rep_tup_inv rd
        cases ru
        obtain ⟨its, vx, ht⟩ := I.isTup ha
        cases e with
        | bl b => simp [D.pl] at pe
        | non => rw [Rep] at re; subst re; cases rv; rw [eqD_false (by intro z; cases z)]; exact SeqAt.EqAt.tuple_none ht (by omega)
        | int b => rw [Rep] at re; subst re; obtain ⟨t, rfl⟩ := rv; rw [eqD_false (by intro z; cases z)]; exact SeqAt.EqAt.tuple_int b t ht (by omega)
        | str b => rw [Rep] at re; subst re; obtain ⟨t, rfl⟩ := rv; rw [eqD_false (by intro z; cases z)]; exact SeqAt.EqAt.tuple_str b t ht (by omega)
        | tup es =>
          obtain ⟨b, ys, rfl, hb, r'⟩ := rep_tup_inv re
          cases rv
          by_cases hab : a = b
          · subst hab
            rw [Rep.inj rd re, eqD_same]
            exact SeqAt.EqAt.same _
          · obtain ⟨its', vy, ht'⟩ := I.isTup hb
            refine SeqAt.EqAt.of_refs hab ?_
            have l1 := vx.length
            have l2 := vy.length
            have l3 := r.length
            have l4 := r'.length
            have key := SeqAt.RcAt.tuples (A := A) (e := eqAtJ ds es eqD) ht ht' (by omega) fun j h1 h2 => ?_
            · rw [← eqD_tup, l3, l4, l1, l2]
              simpa using key
            · have h1' : j < its.length := by simpa using h1
              have h2' : j < its'.length := by simpa using h2
              have e1 : ds[j]? = some (ds[j]'(by omega)) := List.getElem?_eq_getElem _
              have e2 : es[j]? = some (es[j]'(by omega)) := List.getElem?_eq_getElem _
              obtain ⟨v1, q1, p1⟩ := r.get e1
              obtain ⟨v2, q2, p2⟩ := r'.get e2
              obtain ⟨u1, z1, w1⟩ := vx.get q1
              obtain ⟨u2, z2, w2⟩ := vy.get q2
              have y1 : its.toArray[j] = u1 := by
                have : its[j]? = some its[j] := List.getElem?_eq_getElem h1'
                rw [z1] at this
                simpa using (Option.some.inj this).symm
              have y2 : its'.toArray[j] = u2 := by
                have : its'[j]? = some its'[j] := List.getElem?_eq_getElem h2'
                rw [z2] at this
                simpa using (Option.some.inj this).symm
              rw [y1, y2]
              unfold eqAtJ
              rw [e1, e2]
              rw [D.dep] at hn
              have hdep := D.deps_get e1
              rw [D.pl] at pd pe
              exact ih (by omega) (D.pls_get pd e1) (D.pls_get pe e2) p1 p2 w1 w2 (by show A.units + 1 + n < cLine; omega)
end
end L2

end
section
set_option Elab.async false
set_option linter.all false
set_option maxRecDepth 100000
set_option maxHeartbeats 4000000
namespace L2
open PySem PySem.Spec PyProof.Rows
section
variable {X : Cx}
/-! ### == and != of tuples and lists, deep -/
theorem items_at {X : Cx} {pins : List (Addr × Obj)} {σ : St} {H : Hp} {s : Shared} {A : Around} (I : Inv X pins σ H s) {ds es : List D} {xs ys : List V} {its its' : List Value} (vx : Vals xs its) (vy : Vals ys its') (r : Reps H ds xs) (r' : Reps H es ys) (pd : D.pls ds = true) (pe : D.pls es = true)
    (hd : D.deps ds ≤ 40) (hu : A.units + 40 < cLine) : ∀ j (h1 : j < its.toArray.size) (h2 : j < its'.toArray.size), SeqAt.EqAt A s its.toArray[j] its'.toArray[j] (eqAtJ ds es eqD j) := by
  intro j h1 h2
  have l1 := vx.length
  have l2 := vy.length
  have l3 := r.length
  have l4 := r'.length
  have h1' : j < its.length := by simpa using h1
  have h2' : j < its'.length := by simpa using h2
  have e1 : ds[j]? = some (ds[j]'(by omega)) := List.getElem?_eq_getElem _
  have e2 : es[j]? = some (es[j]'(by omega)) := List.getElem?_eq_getElem _
  obtain ⟨v1, q1, p1⟩ := r.get e1
  obtain ⟨v2, q2, p2⟩ := r'.get e2
  obtain ⟨u1, z1, w1⟩ := vx.get q1
  obtain ⟨u2, z2, w2⟩ := vy.get q2
  have y1 : its.toArray[j] = u1 := by
    have : its[j]? = some its[j] := List.getElem?_eq_getElem h1'
    rw [z1] at this
    simpa using (Option.some.inj this).symm
  have y2 : its'.toArray[j] = u2 := by
    have : its'[j]? = some its'[j] := List.getElem?_eq_getElem h2'
    rw [z2] at this
    simpa using (Option.some.inj this).symm
  rw [y1, y2]
  unfold eqAtJ
  rw [e1, e2]
  have hdep := D.deps_get e1
  exact eqAt_D I 40 (by omega) (D.pls_get pd e1) (D.pls_get pe e2) p1 p2 w1 w2 hu
noncomputable def rEqL (K : PySem.W.Frag) : R2 := fun x y H Q => ∃ a b xs ys ds es, x = .ref a ∧ y = .ref b ∧ SqL K H a xs ∧ SqL K H b ys ∧ Reps H ds xs ∧ Reps H es ys ∧ D.pls ds = true ∧ D.pls es = true ∧ D.deps ds ≤ 40 ∧ Q (.bl (eqD (.tup ds) (.tup es))) H
noncomputable def rNeL (K : PySem.W.Frag) : R2 := fun x y H Q => ∃ a b xs ys ds es, x = .ref a ∧ y = .ref b ∧ SqL K H a xs ∧ SqL K H b ys ∧ Reps H ds xs ∧ Reps H es ys ∧ D.pls ds = true ∧ D.pls es = true ∧ D.deps ds ≤ 40 ∧ Q (.bl (!eqD (.tup ds) (.tup es))) H
theorem op_eqL (hu : X.A.units + 64 < cLine) : OpR X (compareOp .Eq) (rEqL X.K) := by
  rintro pins s σ H x y v u Q I rx ry ⟨a, b, xs, ys, ds, es, rfl, rfl, ha, hb, r, r', pd, pe, hd, q⟩
  cases rx; cases ry
  obtain ⟨its, vx, ht, _⟩ := I.list ha
  obtain ⟨its', vy, ht', _⟩ := I.list hb
  by_cases hl : its.length = its'.length
  · refine SeqAt.eq_listAt (e := eqAtJ ds es eqD) ht.isList ht'.isList (by simpa using hl) (by omega) (items_at (A := X.A.in1) I vx vy r r' pd pe hd (by show X.A.units + 1 + 40 < cLine; omega)) ?_
    refine fin_bl I q ?_
    rw [← eqD_tup, r.length, r'.length, vx.length, vy.length, hl]
    simp [hl]
  · refine SeqAt.eq_list_lengthsAt ht.isList ht'.isList (by simpa using hl) (by omega) (fin_bl I q ?_)
    refine eqD_false fun z => hl ?_
    cases z
    rw [← vx.length, ← vy.length, ← r.length, ← r'.length]
theorem op_neL (hu : X.A.units + 64 < cLine) : OpR X (compareOp .NotEq) (rNeL X.K) := by
  rintro pins s σ H x y v u Q I rx ry ⟨a, b, xs, ys, ds, es, rfl, rfl, ha, hb, r, r', pd, pe, hd, q⟩
  cases rx; cases ry
  obtain ⟨its, vx, ht, _⟩ := I.list ha
  obtain ⟨its', vy, ht', _⟩ := I.list hb
  by_cases hl : its.length = its'.length
  · refine SeqAt.RcNeAt.lists (e := eqAtJ ds es eqD) ht.isList ht'.isList (by simpa using hl) (by omega) (items_at (A := X.A.in1) I vx vy r r' pd pe hd (by show X.A.units + 1 + 40 < cLine; omega)) _ _ _ _ ?_
    refine fin_bl I q ?_
    rw [← eqD_tup, r.length, r'.length, vx.length, vy.length, hl]
    simp [hl]
  · refine SeqAt.RcNeAt.lists_lengths ht.isList ht'.isList (by simpa using hl) (by omega) _ _ _ _ (fin_bl I q ?_)
    rw [eqD_false fun z => hl ?_]
    · rfl
    · cases z
      rw [← vx.length, ← vy.length, ← r.length, ← r'.length]

/-! ### is, is not, of truths -/
/-! ### products and quotients of long numbers -/
noncomputable def CBig (i j : Int) : Prop := i.natAbs < 2 ^ 8000 ∧ j.natAbs < 2 ^ 8000
theorem bits_big {i : Int} (h : i.natAbs < 2 ^ 8000) : Builtin.Int.intBits i ≤ 8000 := by
  unfold Builtin.Int.intBits
  by_cases h0 : i = 0
  · simp [h0]
  · have : (i == 0) = false := by simpa using h0
    rw [this]
    have := (Nat.log2_lt (show i.natAbs ≠ 0 by omega)).mpr h
    simp
    omega
theorem CBig.ok {i j : Int} (h : CBig i j) : IntMulOk i j := by
  unfold IntMulOk
  have h1 := bits_big h.1
  have h2 := bits_big h.2
  have hb : Builtin.Int.intTooBig (Builtin.Int.intBits i + Builtin.Int.intBits j) = false := by
    unfold Builtin.Int.intTooBig
    rw [decide_eq_false]
    have : (16000 : Int) ≤ bitsLine := by decide
    omega
  rw [hb]
  simp
theorem op_mulB : OpR X (binaryOp .Mult) (rI CBig fun i j => .int (i * j)) := opI fun _ _ _ _ _ _ _ hc q => mul_int q hc.ok
noncomputable def CDivB (i j : Int) : Prop := 0 < j ∧ j.natAbs < 2 ^ 8000
theorem op_fdivB : OpR X (binaryOp .FloorDiv) (rI CDivB fun i j => .int (i / j)) := opI fun i j _ _ _ _ _ hc q => by
  have hj : j ≠ 0 := by have := hc.1; omega
  refine floordiv_int hj ?_ (.inl (PyProof.noPylong_of_log2 ?_))
  · rw [Int.fdiv_eq_ediv_of_nonneg _ (by have := hc.1; omega)]
    exact q
  · have := (Nat.log2_lt (show j.natAbs ≠ 0 by omega)).mpr hc.2
    omega

/-! ### sum of a list of ints -/
/-! ### isinstance of a built-in type -/
noncomputable def isi (t T : String) : Bool := t == T || (t == "bool" && T == "int")
theorem kit_of {K : PySem.W.Frag} : ∀ {t T : String}, t ∈ ["int", "bool", "str", "tuple", "list", "dict", "NoneType"] → T ∈ ["int", "bool", "str", "tuple", "list", "dict"] → PySem.W.kitOne K (.type t) (.type T) = some (isi t T) := by
  intro t T ht hT
  simp only [List.mem_cons, List.mem_nil_iff, or_false] at ht hT
  rcases ht with rfl | rfl | rfl | rfl | rfl | rfl | rfl <;> rcases hT with rfl | rfl | rfl | rfl | rfl | rfl <;> with_unfolding_all rfl
/-- the type of a value by the abstract heap -/
noncomputable def tyN (H : Hp) : V → Option String
  | .non => some "NoneType"
  | .bl _ => some "bool"
  | .int _ => some "int"
  | .str _ => some "str"
  | .ref a => match H a with
    | some (.lst _) => some "list"
    | some (.frz _ (.lst _)) => some "list"
    | some (.tup _) => some "tuple"
    | some (.dK _) => some "dict"
    | some (.dT _) => some "dict"
    | _ => none
  | _ => none
theorem tyN_of {K : PySem.W.Frag} {H : Hp} {x : V} {t : String} (h : tyN H x = some t) : TyOf K H x (.type t) ∧ t ∈ ["int", "bool", "str", "tuple", "list", "dict", "NoneType"] := by
  cases x with
  | non => cases h; exact ⟨.non, by simp⟩
  | bl b => cases h; exact ⟨.bl b, by simp⟩
  | int i => cases h; exact ⟨.int i, by simp⟩
  | str y => cases h; exact ⟨.str y, by simp⟩
  | ref a =>
    simp only [tyN] at h
    split at h
    · rename_i e; cases h; exact ⟨.lst e, by simp⟩
    · rename_i e; cases h; exact ⟨.frz e, by simp⟩
    · rename_i e; cases h; exact ⟨.tup e, by simp⟩
    · rename_i e; cases h; exact ⟨.dK e, by simp⟩
    · rename_i e; cases h; exact ⟨.dT e, by simp⟩
    · cases h
  | byt _ => cases h
  | flt _ => cases h
  | ty _ => cases h
noncomputable def rIsi : List V → Hp → VK → Prop := fun xs H Q => ∃ x T t, xs = [x, .ty T] ∧ tyN H x = some t ∧ T ∈ ["int", "bool", "str", "tuple", "list", "dict"] ∧ Q (.bl (isi t T)) H
theorem call_isi : CallR X (.builtin "isinstance") rIsi := by
  intro pins s σ H xs us Q I r h
  obtain ⟨x, T, t, rfl, ht, hT, q⟩ := h
  cases r with
  | cons r1 r2 =>
    cases r2 with
    | cons r3 r4 =>
      cases r4
      cases r3
      obtain ⟨ty, hm⟩ := tyN_of (K := X.K) ht
      exact isinst_ok I r1 ty (kit_of hm hT) fun tk => ⟨.bl _, H, I.tok _, rfl, q⟩
end

/-! ### a def of the text, called by its name -/
structure Callee (P : Program) (w : World) (K : PySem.W.Frag) (mg : Str → Option Value) (base : Heap) (x : Str) (k : Nat) (ps : List Str) (sp : Sp) : Prop where
  ex : ∃ f fd, FnOk P w K mg base CX0 k f fd ps sp ∧ mg x = some (.ref f) ∧ PySem.W.keepIn K (.ref f) = true ∧ Binds K fd ps []
theorem pe_fn {X : Cx} {x : Str} {k : Nat} {ps : List Str} {sp : Sp} {p pos : Pos} {e : Expr} {es : List Expr} {t : TA} (C : Callee X.prog X.w X.K X.mg X.base x k ps sp) (hr : Room k X.A) (hg : Gl X x) (ha : PA X (e :: es) t) (hdb : (x == ("__debug__" : Str)) = false := by decide)
    (he : starEach (e :: es) X.env = (false, eval e X.env) :: starEach es X.env := by rfl) (hpl : (backTo pos (starEach es X.env)).any (·.1) = false := by rfl) :
    PE X (.Call (.Name x p) (e :: es) [] pos) (tCall sp [] E0 t) := by
  obtain ⟨f, fd, F, hm, hk, hb⟩ := C.ex
  exact pe_call F hr hg hm hk hb .nil pass0 ha hdb he hpl
theorem pe_fn0 {X : Cx} {x : Str} {k : Nat} {ps : List Str} {sp : Sp} {p pos : Pos} (C : Callee X.prog X.w X.K X.mg X.base x k ps sp) (hr : Room k X.A) (hg : Gl X x) (hdb : (x == ("__debug__" : Str)) = false := by decide) :
    PE X (.Call (.Name x p) [] [] pos) (tCall sp [] E0 tNil) := by
  obtain ⟨f, fd, F, hm, hk, hb⟩ := C.ex
  exact pe_call0 F hr hg hm hk hb .nil pass0 hdb

/-! ### comprehensions: the forms one uses -/
section
variable {K : PySem.W.Frag} {a : Addr} {xs : List V} {g : TG} {tt : TT} {te : TE} {Q : VK} {σ : St} {H : Hp}
/-- one more turn -/
noncomputable def CN (Pv : Nat → List V → St → Hp → Prop) (i : Nat) (ys' : List V) (σ' : St) (H' : Hp) : Prop := ys'.length ≤ i + 1 ∧ Pv (i + 1) ys' σ' H'
theorem cw_of {J : It} (n : Nat) (hz : n ≤ sizeLine) (Pv : Nat → List V → St → Hp → Prop) (h0 : Pv 0 [] σ H) (hgo : ∀ i ys σ H, i < n → Pv i ys σ H → J.go i H) (hstop : ∀ ys σ H, Pv n ys σ H → J.stop n H)
    (hs : ∀ i x ys σ H H2, i < n → ys.length ≤ i → ys.length < sizeLine → Pv i ys σ H → J.yld i H x H2 → g x σ H2 fun σ2 H3 => tt σ2 H3 fun ok H4 => if ok = true then te σ2 H4 fun y H5 => ys.length < sizeLine ∧ CN Pv i (ys ++ [y]) σ2 H5 else CN Pv i ys σ2 H4)
    (hd : ∀ ys σ H, ys.length ≤ n → Pv n ys σ H → ∀ p, H p = none → Q (.ref p) (upd H p (.lst ys))) :
    ∃ W : Nat → Nat → List V → St → Hp → Prop, (∃ m, W 0 m [] σ H) ∧ CW J g tt te W Q := by
  refine ⟨fun i m ys σ H => m = n - i ∧ i ≤ n ∧ ys.length ≤ i ∧ Pv i ys σ H, ⟨n, by simp, Nat.zero_le _, Nat.le_refl _, h0⟩, ?_⟩
  rintro i m ys σ H ⟨rfl, hi, hy, p⟩
  by_cases hlt : i < n
  · exact .inr ⟨hgo i ys σ H hlt p, CN Pv i, fun ys' σ' H' p' => ⟨n - (i + 1), by omega, rfl, hlt, p'.1, p'.2⟩, fun x H2 y => hs i x ys σ H H2 hlt hy (by omega) p y⟩
  · have e : i = n := by omega
    subst e
    exact .inl ⟨hstop ys σ H p, by omega, hd ys σ H hy p⟩
theorem cw_list (hz : xs.length ≤ sizeLine) (Pv : Nat → List V → St → Hp → Prop) (h0 : Pv 0 [] σ H) (hl : ∀ i ys σ H, i ≤ xs.length → Pv i ys σ H → SqL K H a xs)
    (hs : ∀ i x ys σ H, xs[i]? = some x → ys.length ≤ i → ys.length < sizeLine → Pv i ys σ H → g x σ H fun σ2 H3 => tt σ2 H3 fun ok H4 => if ok = true then te σ2 H4 fun y H5 => ys.length < sizeLine ∧ CN Pv i (ys ++ [y]) σ2 H5 else CN Pv i ys σ2 H4)
    (hd : ∀ ys σ H, ys.length ≤ xs.length → Pv xs.length ys σ H → ∀ p, H p = none → Q (.ref p) (upd H p (.lst ys))) :
    ∃ W : Nat → Nat → List V → St → Hp → Prop, (∃ m, W 0 m [] σ H) ∧ CW (Itl K a) g tt te W Q := by
  refine cw_of xs.length hz Pv h0 (fun i ys σ H hi p => ⟨xs, xs[i], hl i ys σ H (Nat.le_of_lt hi) p, by simp [hi]⟩) (fun ys σ H p => ⟨xs, hl _ ys σ H (Nat.le_refl _) p, Nat.le_refl _⟩) (fun i x ys σ H H2 hi h1 h2 p y => ?_) hd
  obtain ⟨rfl, y⟩ := y
  exact hs i x ys σ _ (y xs (hl i ys σ _ (Nat.le_of_lt hi) p)) h1 h2 p
theorem cw_tup (hz : xs.length ≤ sizeLine) (Pv : Nat → List V → St → Hp → Prop) (h0 : Pv 0 [] σ H) (hl : ∀ i ys σ H, i ≤ xs.length → Pv i ys σ H → SqT K H a xs)
    (hs : ∀ i x ys σ H, xs[i]? = some x → ys.length ≤ i → ys.length < sizeLine → Pv i ys σ H → g x σ H fun σ2 H3 => tt σ2 H3 fun ok H4 => if ok = true then te σ2 H4 fun y H5 => ys.length < sizeLine ∧ CN Pv i (ys ++ [y]) σ2 H5 else CN Pv i ys σ2 H4)
    (hd : ∀ ys σ H, ys.length ≤ xs.length → Pv xs.length ys σ H → ∀ p, H p = none → Q (.ref p) (upd H p (.lst ys))) :
    ∃ W : Nat → Nat → List V → St → Hp → Prop, (∃ m, W 0 m [] σ H) ∧ CW (Itt K a) g tt te W Q := by
  refine cw_of xs.length hz Pv h0 (fun i ys σ H hi p => ⟨xs, xs[i], hl i ys σ H (Nat.le_of_lt hi) p, by simp [hi]⟩) (fun ys σ H p => ⟨xs, hl _ ys σ H (Nat.le_refl _) p, Nat.le_refl _⟩) (fun i x ys σ H H2 hi h1 h2 p y => ?_) hd
  obtain ⟨rfl, y⟩ := y
  exact hs i x ys σ _ (y xs (hl i ys σ _ (Nat.le_of_lt hi) p)) h1 h2 p
theorem cw_range {lo : Int} {n : Nat} (hz : n ≤ sizeLine) (Pv : Nat → List V → St → Hp → Prop) (h0 : Pv 0 [] σ H)
    (hs : ∀ i ys σ H, i < n → ys.length ≤ i → ys.length < sizeLine → Pv i ys σ H → g (.int (lo + i)) σ H fun σ2 H3 => tt σ2 H3 fun ok H4 => if ok = true then te σ2 H4 fun y H5 => ys.length < sizeLine ∧ CN Pv i (ys ++ [y]) σ2 H5 else CN Pv i ys σ2 H4)
    (hd : ∀ ys σ H, ys.length ≤ n → Pv n ys σ H → ∀ p, H p = none → Q (.ref p) (upd H p (.lst ys))) :
    ∃ W : Nat → Nat → List V → St → Hp → Prop, (∃ m, W 0 m [] σ H) ∧ CW (Itr lo n) g tt te W Q := by
  refine cw_of n hz Pv h0 (fun i ys σ H hi p => hi) (fun ys σ H p => Nat.le_refl _) (fun i x ys σ H H2 hi h1 h2 p y => ?_) hd
  obtain ⟨rfl, rfl⟩ := y
  exact hs i ys σ _ hi h1 h2 p
end
end L2

end
section
set_option Elab.async false
set_option linter.all false
set_option maxRecDepth 100000
set_option maxHeartbeats 4000000
namespace L2
open PySem PySem.Spec PyProof.Rows
/-! ### readings, step by step (each is what its word says, written so that refine finds it) -/
section
variable {σ : St} {H : Hp} {Q : VK} {v x y : V} {ta tb tc te : TE} {t u : TS} {c d : TT} {D' : Ends} {r : R2} {g : TG} {i j : Int} {n : Nat} {K : PySem.W.Frag}
theorem rd_var (e : σ[n]? = some (some v)) (h : Q v H) : tVar n σ H Q := ⟨v, e, h⟩
theorem rd_c (h : Q v H) : tC v σ H Q := h
theorem rd_op (h : ta σ H fun x H1 => tb σ H1 fun y H2 => r x y H2 Q) : tOp r ta tb σ H Q := h
theorem rd_un {r : V → Hp → VK → Prop} (h : ta σ H fun x H1 => r x H1 Q) : tUn r ta σ H Q := h
theorem rd_seq (h : t { D' with nx := u D' } σ H) : tSeq t u D' σ H := h
theorem rd_asg (h : te σ H fun x H1 => g x σ H1 D'.nx) : tAsg te g D' σ H := h
theorem rd_gname {R : St → Hp → Prop} (h : R (σ.set n (some v)) H) : gName n v σ H R := h
theorem rd_ret (h : te σ H D'.rt) : tRet te D' σ H := h
theorem rd_drop (h : te σ H fun _ H1 => D'.nx σ H1) : tDrop te D' σ H := h
theorem rd_next (h : D'.nx σ H) : tNext D' σ H := h
theorem rd_if (h : c σ H fun b H1 => if b = true then t D' σ H1 else u D' σ H1) : tIfS c t u D' σ H := h
theorem rd_test {R : Bool → Hp → Prop} (h : ta σ H fun x H' => ∃ k, x = .bl k ∧ R k H') : tTest ta σ H R := h
theorem rd_tb {R : Bool → Hp → Prop} (h : ta σ H fun x H' => ∃ k, x = .bl k ∧ R k H') : tB ta σ H R := h
theorem rd_and {R : Bool → Hp → Prop} (h : c σ H fun b H1 => if b = true then d σ H1 R else R false H1) : tAnd c d σ H R := h
theorem rd_or {R : Bool → Hp → Prop} (h : c σ H fun b H1 => if b = true then R true H1 else d σ H1 R) : tOr c d σ H R := h
theorem rd_not {R : Bool → Hp → Prop} (h : c σ H fun b H1 => R (!b) H1) : tNot c σ H R := h
theorem rd_true {R : Bool → Hp → Prop} (h : R true H) : tTrue σ H R := h
theorem rd_andV (h : ta σ H fun x H1 => ∃ c, x = .bl c ∧ if c = true then tb σ H1 Q else Q (.bl false) H1) : tAndV ta tb σ H Q := h
theorem rd_orV (h : ta σ H fun x H1 => ∃ c, x = .bl c ∧ if c = true then Q (.bl true) H1 else tb σ H1 Q) : tOrV ta tb σ H Q := h
theorem rd_notV (h : ta σ H fun x H1 => ∃ c, x = .bl c ∧ Q (.bl (!c)) H1) : tNotV ta σ H Q := h
theorem rd_ifE (h : c σ H fun b H1 => if b = true then ta σ H1 Q else tb σ H1 Q) : tIf c ta tb σ H Q := h
theorem rd_chain {r r' : R2} (h : ta σ H fun x H1 => tb σ H1 fun y H2 => r x y H2 fun z H3 => ∃ k, z = .bl k ∧ (if k = true then tc σ H3 fun w' H4 => r' y w' H4 Q else Q (.bl false) H3)) : tChain r r' ta tb tc σ H Q := h
theorem rd_nil {R : List V → Hp → Prop} (h : R [] H) : tNil σ H R := h
theorem rd_cons {tr : TA} {R : List V → Hp → Prop} (h : ta σ H fun x H1 => tr σ H1 fun xs H2 => R (x :: xs) H2) : tCons ta tr σ H R := h
theorem rd_cb {rr : List V → Hp → VK → Prop} {ta : TA} (h : ta σ H fun vs H1 => rr vs H1 Q) : tCB rr ta σ H Q := h
theorem rd_call {sp : Sp} {E : XK} {ta : TA} (h : ta σ H fun vs H1 => sp (vs ++ []) H1 Q E) : tCall sp [] E ta σ H Q := h
theorem rd_I0 {f : Int → Int → V} (h : Q (f i j) H) : rI0 f (.int i) (.int j) H Q := ⟨i, j, rfl, rfl, h⟩
theorem rd_I {C : Int → Int → Prop} {f : Int → Int → V} (hc : C i j) (h : Q (f i j) H) : rI C f (.int i) (.int j) H Q := ⟨i, j, rfl, rfl, hc, h⟩
theorem rd_U {f : Int → V} (h : Q (f i) H) : rU f (.int i) H Q := ⟨i, rfl, h⟩
theorem rd_eqI (h : Q (.bl (decide (i = j))) H) : rEq (.int i) (.int j) H Q := ⟨rfl, by rw [dec_int, Bool.beq_eq_decide_eq]; exact h⟩
theorem rd_neI (h : Q (.bl (!decide (i = j))) H) : rNe (.int i) (.int j) H Q := ⟨rfl, by rw [dec_int, Bool.beq_eq_decide_eq]; exact h⟩
theorem rd_eqS {a b : Str} (h : Q (.bl (decide (a = b))) H) : rEq (.str a) (.str b) H Q := ⟨rfl, by rw [dec_str, Bool.beq_eq_decide_eq]; exact h⟩
theorem rd_neS {a b : Str} (h : Q (.bl (!decide (a = b))) H) : rNe (.str a) (.str b) H Q := ⟨rfl, by rw [dec_str, Bool.beq_eq_decide_eq]; exact h⟩
theorem rd_bl {b : Bool} {R : Bool → Prop} (h : R b) : ∃ k, V.bl b = V.bl k ∧ R k := ⟨b, rfl, h⟩
theorem rd_tup {ta : TA} (h : ta σ H fun xs H1 => xs.length ≤ sizeLine ∧ ∀ p, H1 p = none → Q (.ref p) (upd H1 p (.tup xs))) : tTup ta σ H Q := h
theorem rd_lst {ta : TA} (h : ta σ H fun xs H1 => xs.length ≤ sizeLine ∧ ∀ p, H1 p = none → Q (.ref p) (upd H1 p (.lst xs))) : tLst ta σ H Q := h
theorem small_le {n : Nat} (h : n ≤ 1000) : n ≤ sizeLine := Nat.le_trans h (by decide)
/-- an item of a tuple, of a list -/
theorem rd_ixT {p : Addr} {xs : List V} (h : H p = some (.tup xs)) (e : atI xs i = some v) (q : Q v H) : rIxT K (.ref p) (.int i) H Q := ⟨p, xs, i, v, rfl, rfl, SqT.of h, e, q⟩
theorem rd_ixL {p : Addr} {xs : List V} (h : H p = some (.lst xs)) (e : atI xs i = some v) (q : Q v H) : rIxL K (.ref p) (.int i) H Q := ⟨p, xs, i, v, rfl, rfl, SqL.of h, e, q⟩
theorem rd_setL {p : Addr} {xs : List V} {k : Nat} {R : Hp → Prop} (h : H p = some (.lst xs)) (e : ixN xs.length i = some k) (q : R (upd H p (.lst (xs.set k v)))) : rSetL (.ref p) (.int i) v H R := ⟨p, xs, i, k, rfl, rfl, h, e, q⟩
theorem rd_gsub {to ti : TE} {ts : TSet} {R : St → Hp → Prop} (h : to σ H fun o H1 => ti σ H1 fun i H2 => ts o i v H2 fun H3 => R σ H3) : gSub to ti ts v σ H R := h
theorem rd_isi {x : V} {T t : String} (h : tyN H x = some t) (hT : T ∈ ["int", "bool", "str", "tuple", "list", "dict"]) (q : Q (.bl (isi t T)) H) : rIsi [x, .ty T] H Q := ⟨x, T, t, rfl, h, hT, q⟩
theorem tyN_tup {a : Addr} {xs : List V} (h : H a = some (.tup xs)) : tyN H (.ref a) = some "tuple" := by simp only [tyN, h]
theorem tyN_lst {a : Addr} {xs : List V} (h : H a = some (.lst xs)) : tyN H (.ref a) = some "list" := by simp only [tyN, h]
theorem rd_slice {rr : V → Option Int → Option Int → Hp → VK → Prop} {tl th : TO} (h : te σ H fun x H1 => tl σ H1 fun l H2 => th σ H2 fun u H3 => rr x l u H3 Q) : tSl rr te tl th σ H Q := h
theorem rd_nopart {R : Option Int → Hp → Prop} (h : R none H) : tNoPart σ H R := h
theorem rd_part {R : Option Int → Hp → Prop} (h : ta σ H fun x H1 => ∃ i, x = .int i ∧ R (some i) H1) : tPart ta σ H R := h
theorem rd_int {R : Int → Prop} (h : R i) : ∃ k, V.int i = V.int k ∧ R k := ⟨i, rfl, h⟩
theorem rd_bm {T : String} {rr : V → List V → Hp → VK → Prop} {ta' : TA} (h : ta σ H fun x H1 => tyV K T x H1 ∧ ta' σ H1 fun xs H2 => rr x xs H2 Q) : tBM K T rr ta ta' σ H Q := h
theorem rd_append {l : Addr} {xs : List V} (h : H l = some (.lst xs)) (hz : xs.length < sizeLine) (q : Q .non (upd H l (.lst (xs ++ [y])))) : rAppend (.ref l) [y] H Q := ⟨l, xs, y, rfl, rfl, h, hz, q⟩
theorem rd_comp {LN : List Str} {fr : List Nat} {wi : TI} (h : wi σ H fun J H1 => ∃ W : Nat → Nat → List V → St → Hp → Prop, (∃ m, W 0 m [] (bkStart LN fr σ) H1) ∧ CW J g c te W Q) : tComp LN fr wi g c te σ H Q := h
noncomputable def itK (K : PySem.W.Frag) (R : It → Hp → Prop) (x : V) (H1 : Hp) : Prop := ∃ a, x = .ref a ∧ (∃ xs, SqT K H1 a xs) ∧ R (Itt K a) H1
noncomputable def ilK (K : PySem.W.Frag) (R : It → Hp → Prop) (x : V) (H1 : Hp) : Prop := ∃ a, x = .ref a ∧ (∃ xs, SqL K H1 a xs) ∧ R (Itl K a) H1
noncomputable def irK (R : It → Hp → Prop) (vs : List V) (H1 : Hp) : Prop := ∃ j : Int, vs = [.int j] ∧ -(2 ^ 62) ≤ j ∧ j < 2 ^ 62 ∧ R (Itr 0 j.toNat) H1
theorem rd_itup {R : It → Hp → Prop} {tl : TE} (h : tl σ H (itK K R)) : iTup K tl σ H R := h
theorem rd_ilist {R : It → Hp → Prop} {tl : TE} (h : tl σ H (ilK K R)) : iList K tl σ H R := h
theorem rd_irng {R : It → Hp → Prop} {ta' : TA} (h : ta' σ H (irK R)) : iRng1 ta' σ H R := h
theorem itK_rep {R : It → Hp → Prop} {x : V} {ds : List D} (h : Rep H (.tup ds) x) (q : ∀ a xs, x = .ref a → H a = some (.tup xs) → Reps H ds xs → R (Itt K a) H) : itK K R x H := by
  obtain ⟨a, xs, rfl, ha, r⟩ := rep_tup_inv h
  exact ⟨a, rfl, ⟨xs, SqT.of ha⟩, q a xs rfl ha r⟩
theorem ilK_of {R : It → Hp → Prop} {a : Addr} {xs : List V} (h : SqL K H a xs) (q : R (Itl K a) H) : ilK K R (.ref a) H := ⟨a, rfl, ⟨xs, h⟩, q⟩
theorem irK_of {R : It → Hp → Prop} {j : Int} (h1 : -(2 ^ 62) ≤ j) (h2 : j < 2 ^ 62) (q : R (Itr 0 j.toNat) H) : irK R [.int j] H := ⟨j, rfl, h1, h2, q⟩
theorem rd_gtup {tg : TGs} {a : Addr} {xs : List V} {R : St → Hp → Prop} (h : H a = some (.tup xs)) (hl : xs.length = n) (q : tg xs σ H R) : gTup K n tg (.ref a) σ H R := ⟨a, xs, rfl, SqT.of h, hl, q⟩
theorem rd_gcons {tg : TGs} {vs : List V} {R : St → Hp → Prop} (h : g v σ H fun σ' H' => tg vs σ' H' R) : gCons g tg (v :: vs) σ H R := ⟨v, vs, rfl, h⟩
theorem rd_gnil {R : St → Hp → Prop} (h : R σ H) : gNil [] σ H R := ⟨rfl, h⟩
theorem rd_for {wi : TI} (h : wi σ H fun J H1 => ∃ W : Nat → Nat → St → Hp → Prop, (∃ m, W 0 m σ H1) ∧ ∀ i m σ H, W i m σ H →
  (J.stop i H ∧ D'.nx σ H) ∨ (J.go i H ∧ ∃ N : St → Hp → Prop, (∀ σ' H', N σ' H' → ∃ m', m' < m ∧ W (i + 1) m' σ' H') ∧ ∀ x H', J.yld i H x H' → g x σ H' fun σ2 H2 => t { D' with nx := N, ct := N, bk := D'.nx } σ2 H2)) : tFor wi g t D' σ H := h
theorem rd_len {p : Addr} {ys : List V} (h : H p = some (.tup ys)) (q : Q (.int ys.length) H) : ∃ x n, [V.ref p] = [x] ∧ LenV K x H n ∧ Q (.int n) H := ⟨_, _, rfl, .inr ⟨ys, SqT.of h, rfl⟩, q⟩
end
end L2

end
section
set_option Elab.async false
set_option linter.all false
set_option maxRecDepth 100000
set_option maxHeartbeats 4000000
namespace L2
open PySem PySem.Spec PyProof.Rows
theorem bt_abs : bootBuiltins "abs" = some (.builtin "abs") := by decide +kernel
theorem bt_len : bootBuiltins "len" = some (.builtin "len") := by decide +kernel
theorem bt_isinstance : bootBuiltins "isinstance" = some (.builtin "isinstance") := by decide +kernel
theorem bt_min : bootBuiltins "min" = some (.builtin "min") := by decide +kernel
theorem bt_all : bootBuiltins "all" = some (.builtin "all") := by decide +kernel
theorem bt_int : bootBuiltins "int" = some (.type "int") := by decide +kernel
theorem bt_bool : bootBuiltins "bool" = some (.type "bool") := by decide +kernel
theorem bt_tuple : bootBuiltins "tuple" = some (.type "tuple") := by decide +kernel
theorem bt_list : bootBuiltins "list" = some (.type "list") := by decide +kernel
theorem bt_str : bootBuiltins "str" = some (.type "str") := by decide +kernel
noncomputable def bkOk (N : List Str) (sc osc : Scope) (FN : List Str) (fr : List Nat) : Bool :=
  decide (sc.kind = .function) && sc.names.all (fun y => decide (y.2 ≠ .cell)) && sc.names.all (fun y => decide (y.2 = .local → sc.names.lookup y.1 = some .local)) &&
  sc.names.all (fun y => decide (y.2 = .free → osc.names.lookup y.1 = some .cell ∨ osc.names.lookup y.1 = some .free)) &&
  FN.all (fun x => decide (osc.names.lookup x = some .cell ∨ osc.names.lookup x = some .free)) && FN.all (fun x => decide (sc.names.lookup x = some .free)) && decide (FN.map some = fr.map fun j => N[j]?)
theorem bk_of {N : List Str} {sc osc : Scope} {LN FN : List Str} {fr : List Nat} (h : bkOk N sc osc FN fr = true) : BkScope N sc osc LN FN fr := by
  unfold bkOk at h
  simp only [Bool.and_eq_true, List.all_eq_true, decide_eq_true_eq] at h
  obtain ⟨⟨⟨⟨⟨⟨h1, h2⟩, h3⟩, h4⟩, h5⟩, h6⟩, h7⟩ := h
  exact ⟨h1, h2, h3, h4, h5, h6, h7⟩
section
variable {X : Cx}
noncomputable def rIxA (K : PySem.W.Frag) : R2 := fun x y H Q => rIxL K x y H Q ∨ rIxT K x y H Q
theorem ix_any : IxR X (rIxA X.K) := ix_list.or ix_tup
theorem rd_ixaT {K : PySem.W.Frag} {H : Hp} {p : Addr} {xs : List V} {i : Int} {v : V} {Q : VK} (h : H p = some (.tup xs)) (e : atI xs i = some v) (q : Q v H) : rIxA K (.ref p) (.int i) H Q := .inr (rd_ixT h e q)
theorem rd_ixaL {K : PySem.W.Frag} {H : Hp} {p : Addr} {xs : List V} {i : Int} {v : V} {Q : VK} (h : H p = some (.lst xs)) (e : atI xs i = some v) (q : Q v H) : rIxA K (.ref p) (.int i) H Q := .inl (rd_ixL h e q)
theorem atI_at {α : Type} {xs : List α} {i : Int} {n : Nat} {v : α} (hi : i = (n : Int)) (h : xs[n]? = some v) : atI xs i = some v := by
  subst hi
  have hl : n < xs.length := (List.getElem?_eq_some_iff.mp h).1
  unfold atI ixN
  rw [if_pos (by omega), if_pos (by omega)]
  simpa using h
theorem ixN_at {m : Nat} {i : Int} {n : Nat} (hi : i = (n : Int)) (h : n < m) : ixN m i = some n := by
  subst hi
  unfold ixN
  rw [if_pos (by omega), if_pos (by omega)]
  simp
/-- an item of what stands for a tuple -/
theorem rd_ixR {K : PySem.W.Frag} {H : Hp} {x : V} {ds : List D} {i : Int} {n : Nat} {d : D} {Q : VK} (h : Rep H (.tup ds) x) (hi : i = (n : Int)) (e : ds[n]? = some d) (q : ∀ v, Rep H d v → Q v H) : rIxA K x (.int i) H Q := by
  obtain ⟨a, xs, rfl, ha, r⟩ := rep_tup_inv h
  obtain ⟨v, ev, rv⟩ := r.get e
  exact rd_ixaT ha (atI_at hi ev) (q v rv)
theorem rd_ixI {K : PySem.W.Frag} {H : Hp} {x : V} {ds : List D} {i : Int} {n : Nat} {k : Int} {Q : VK} (h : Rep H (.tup ds) x) (hi : i = (n : Int)) (e : ds[n]? = some (.int k)) (q : Q (.int k) H) : rIxA K x (.int i) H Q :=
  rd_ixR h hi e fun v r => by rw [rep_int_inv r]; exact q
theorem tyN_rep {H : Hp} {x : V} {ds : List D} (h : Rep H (.tup ds) x) : tyN H x = some "tuple" := by
  obtain ⟨a, xs, rfl, ha, r⟩ := rep_tup_inv h
  exact tyN_tup ha
theorem lenV_rep {K : PySem.W.Frag} {H : Hp} {x : V} {ds : List D} {Q : VK} (h : Rep H (.tup ds) x) (q : Q (.int ds.length) H) : ∃ y n, [x] = [y] ∧ LenV K y H n ∧ Q (.int n) H := by
  obtain ⟨a, xs, rfl, ha, r⟩ := rep_tup_inv h
  exact rd_len ha (by rw [← r.length]; exact q)
noncomputable def rLen (K : PySem.W.Frag) : List V → Hp → VK → Prop := fun xs H Q => ∃ x n, xs = [x] ∧ LenV K x H n ∧ Q (.int n) H
theorem call_len' : CallR X (.builtin "len") (rLen X.K) := call_len
theorem rd_lenR {K : PySem.W.Frag} {H : Hp} {x : V} {ds : List D} {Q : VK} (h : Rep H (.tup ds) x) (q : Q (.int ds.length) H) : rLen K [x] H Q := lenV_rep h q
theorem rd_lenL' {K : PySem.W.Frag} {H : Hp} {p : Addr} {ys : List V} {Q : VK} (h : SqL K H p ys) (q : Q (.int ys.length) H) : rLen K [.ref p] H Q := ⟨_, _, rfl, .inl ⟨ys, h, rfl⟩, q⟩
noncomputable def rAbs : List V → Hp → VK → Prop := fun xs H Q => ∃ i, xs = [.int i] ∧ Q (.int (if i < 0 then -i else i)) H
theorem call_abs' : CallR X (.builtin "abs") rAbs := call_abs
theorem rd_abs {H : Hp} {i : Int} {Q : VK} (q : Q (.int (if i < 0 then -i else i)) H) : rAbs [.int i] H Q := ⟨i, rfl, q⟩
noncomputable def rMin : List V → Hp → VK → Prop := fun xs H Q => ∃ i j, xs = [.int i, .int j] ∧ Q (.int (if j < i then j else i)) H
theorem call_min' (hc : X.calm = true) : CallR X (.builtin "min") rMin := call_min2 hc
theorem rd_min {H : Hp} {i j : Int} {Q : VK} (q : Q (.int (if j < i then j else i)) H) : rMin [.int i, .int j] H Q := ⟨i, j, rfl, q⟩
noncomputable def rTupOf (K : PySem.W.Frag) : List V → Hp → VK → Prop := fun xs H Q => ∃ p ys, xs = [.ref p] ∧ ((SqL K H p ys ∧ ∀ l, H l = none → Q (.ref l) (upd H l (.tup ys))) ∨ (SqT K H p ys ∧ Q (.ref p) H))
theorem call_tup' : CallR X (.type "tuple") (rTupOf X.K) := call_tuple_of
theorem rd_tupL {K : PySem.W.Frag} {H : Hp} {p : Addr} {ys : List V} {Q : VK} (h : SqL K H p ys) (q : ∀ l, H l = none → Q (.ref l) (upd H l (.tup ys))) : rTupOf K [.ref p] H Q := ⟨p, ys, rfl, .inl ⟨h, q⟩⟩
noncomputable def rLstOf (K : PySem.W.Frag) : List V → Hp → VK → Prop := fun xs H Q => ∃ p ys, xs = [.ref p] ∧ (SqL K H p ys ∨ SqT K H p ys) ∧ ∀ l, H l = none → Q (.ref l) (upd H l (.lst ys))
theorem call_lst' : CallR X (.type "list") (rLstOf X.K) := call_list_of
theorem rd_lstOf {K : PySem.W.Frag} {H : Hp} {p : Addr} {ys : List V} {Q : VK} (h : SqL K H p ys ∨ SqT K H p ys) (q : ∀ l, H l = none → Q (.ref l) (upd H l (.lst ys))) : rLstOf K [.ref p] H Q := ⟨p, ys, rfl, h, q⟩
theorem mk_le {n : Nat} (h : Nat.ble n 1000 = true) : n ≤ sizeLine := small_le (Nat.le_of_ble_eq_true h)
end
/-! ### the same, the written part named -/
section
variable {X : Cx} {K : PySem.W.Frag} {pos : Pos}
theorem k_ix (h : X.K = K) : IxR X (rIxA K) := h ▸ ix_any
theorem k_len (h : X.K = K) : CallR X (.builtin "len") (rLen K) := h ▸ call_len'
theorem k_tupOf (h : X.K = K) : CallR X (.type "tuple") (rTupOf K) := h ▸ call_tup'
theorem k_lstOf (h : X.K = K) : CallR X (.type "list") (rLstOf K) := h ▸ call_lst'
theorem k_sl (h : X.K = K) : SlR X (rSlL K) := h ▸ sl_list
theorem k_eqL (h : X.K = K) (hu : X.A.units + 64 < cLine) : OpR X (compareOp .Eq) (rEqL K) := h ▸ op_eqL hu
theorem k_neL (h : X.K = K) (hu : X.A.units + 64 < cLine) : OpR X (compareOp .NotEq) (rNeL K) := h ▸ op_neL hu
theorem k_pi_list {tg l : Expr} {tl : TE} (h : X.K = K) (hl : PE X l tl) : PI X tg l (iList K tl) := h ▸ pi_list hl
theorem k_pi_tup {tg l : Expr} {tl : TE} (h : X.K = K) (hl : PE X l tl) : PI X tg l (iTup K tl) := h ▸ pi_tup hl
theorem k_pg_tup {es : List Expr} {k : Nat} {t : TGs} {n : Nat} (h : X.K = K) (hc : X.calm = true) (hg : PGs X es t)
    (hn : (assignEach es X.env).length = n := by rfl) (hst : (assignEach es X.env).findIdx? (·.1) = none := by rfl) : PG X (.Tuple es k pos) (gTup K n t) := h ▸ pg_tup hc hg hn hst
variable {o e : Expr} {es : List Expr} {to : TE} {t : TA} {name : Str} {apos cpos : Pos} {T id : String} {r : V → List V → Hp → VK → Prop}
theorem k_bm (h : X.K = K) (pa : PlainAttrs T) (slot : Slot T name id) (hty : typeOf (.builtin id) = pure (.type "method_descriptor")) (hm : MtR X id r) (ho : PE X o to) (ha : PA X (e :: es) t)
    (hbase : attributeBase o name X.env (eval o X.env) = eval o X.env := by rfl)
    (hfew : ((backTo cpos (starEach (e :: es) X.env)).all (fun x => !x.1) && (backToKw cpos (keywordEach [] X.env)).all (fun x => x.1.isSome)
      && decide ((e :: es).length + ([] : List Keyword).length + (if ([] : List Keyword).isEmpty then 0 else 1) < 30)) = true := by rfl)
    (hline : (apos.endLine == cpos.line) = true := by rfl) (hs : starEach (e :: es) X.env = (false, eval e X.env) :: starEach es X.env := by rfl) (hplain : (backTo cpos (starEach es X.env)).any (·.1) = false := by rfl) :
    PE X (.Call (.Attribute o name apos) (e :: es) [] cpos) (tBM K T r to t) := h ▸ pe_bm pa slot hty hm ho ha hbase hfew hline hs hplain
end
end L2

end
section
set_option Elab.async false
set_option linter.all false
set_option maxRecDepth 100000
set_option maxHeartbeats 4000000
namespace L2
open PySem PySem.Spec PyProof.Rows
/-! ### defs of the text by their names, and promises by the number of arguments -/
structure TopFn (K : PySem.W.Frag) (mg : Str → Option Value) (x : Str) (st : Stmt) (ps : List Str) : Prop where
  ex : ∃ f fd, Fun K x x st f fd ∧ mg x = some (.ref f) ∧ Binds K fd ps []
section
variable {P : Program} {w : World} {K : PySem.W.Frag} {mg : Str → Option Value} {base : Heap} {x : Str} {st : Stmt} {ps N : List Str} {sp : Sp} {k : Nat}
theorem TopFn.callee (T : TopFn K mg x st ps) (h : ∀ f fd, Fun K x x st f fd → FnOk P w K mg base CX0 k f fd ps sp) : Callee P w K mg base x k ps sp := by
  obtain ⟨f, fd, F, hm, hb⟩ := T.ex
  exact ⟨f, fd, h f fd F, hm, F.kp, hb⟩
noncomputable def sp0 (b : Hp → VK → Prop) : Sp := fun vs H Q _ => vs = [] ∧ b H Q
noncomputable def sp1 (b : V → Hp → VK → Prop) : Sp := fun vs H Q _ => ∃ x, vs = [x] ∧ b x H Q
noncomputable def sp2 (b : V → V → Hp → VK → Prop) : Sp := fun vs H Q _ => ∃ x y, vs = [x, y] ∧ b x y H Q
noncomputable def sp3 (b : V → V → V → Hp → VK → Prop) : Sp := fun vs H Q _ => ∃ x y z, vs = [x, y, z] ∧ b x y z H Q
noncomputable def sp4 (b : V → V → V → V → Hp → VK → Prop) : Sp := fun vs H Q _ => ∃ x y z u, vs = [x, y, z, u] ∧ b x y z u H Q
noncomputable def sp5 (b : V → V → V → V → V → Hp → VK → Prop) : Sp := fun vs H Q _ => ∃ x y z u v, vs = [x, y, z, u, v] ∧ b x y z u v H Q
theorem use0 {b : Hp → VK → Prop} {H : Hp} {Q : VK} {E : XK} (h : b H Q) : sp0 b [] H Q E := ⟨rfl, h⟩
theorem use1 {b : V → Hp → VK → Prop} {x : V} {H : Hp} {Q : VK} {E : XK} (h : b x H Q) : sp1 b [x] H Q E := ⟨x, rfl, h⟩
theorem use2 {b : V → V → Hp → VK → Prop} {x y : V} {H : Hp} {Q : VK} {E : XK} (h : b x y H Q) : sp2 b [x, y] H Q E := ⟨x, y, rfl, h⟩
theorem use3 {b : V → V → V → Hp → VK → Prop} {x y z : V} {H : Hp} {Q : VK} {E : XK} (h : b x y z H Q) : sp3 b [x, y, z] H Q E := ⟨x, y, z, rfl, h⟩
theorem use4 {b : V → V → V → V → Hp → VK → Prop} {x y z u : V} {H : Hp} {Q : VK} {E : XK} (h : b x y z u H Q) : sp4 b [x, y, z, u] H Q E := ⟨x, y, z, u, rfl, h⟩
theorem use5 {b : V → V → V → V → V → Hp → VK → Prop} {x y z u v : V} {H : Hp} {Q : VK} {E : XK} (h : b x y z u v H Q) : sp5 b [x, y, z, u, v] H Q E := ⟨x, y, z, u, v, rfl, h⟩
noncomputable def GoalB (P : Program) (w : World) (K : PySem.W.Frag) (mg : Str → Option Value) (base : Heap) (N : List Str) (x : Str) (st : Stmt) (f : Addr) (cdv : Value) (A : Around) (outer : List Env) (s : Shared) (H : Hp) (vs : List V) (Q : VK) (E : XK) : Prop :=
  ∃ t, PSs (cxOf CX0 P w K mg base N x (defScope st) f cdv A outer s H E).nox (defBody st) t ∧ t { nx := fun _ H' => Q .non H', rt := Q } (start N vs) H
theorem TopFn.ok0 {b : Hp → VK → Prop} (T : TopFn K mg x st []) (S : FnScope N [] (defScope st))
    (h : ∀ (f : Addr) (cdv : Value) (A : Around) (outer : List Env) (s : Shared) (H : Hp) (Q : VK) (E : XK), Room k (A.deeper (envOfC x (defScope st) s.heap.objs.size f cdv)) → b H Q → GoalB P w K mg base N x st f cdv A outer s H [] Q E) : Callee P w K mg base x (k + 1) [] (sp0 b) :=
  T.callee fun f fd F => F.ok S (fun vs H Q E ⟨e, _⟩ => by rw [e]; rfl) fun cdv A outer s H vs Q E hr hsp => by
    obtain ⟨rfl, hb⟩ := hsp
    exact h f cdv A outer s H Q E hr hb
theorem TopFn.ok1 {a1 : Str} {b : V → Hp → VK → Prop} (T : TopFn K mg x st [a1]) (S : FnScope N [a1] (defScope st))
    (h : ∀ (f : Addr) (cdv : Value) (A : Around) (outer : List Env) (s : Shared) (H : Hp) (v1 : V) (Q : VK) (E : XK), Room k (A.deeper (envOfC x (defScope st) s.heap.objs.size f cdv)) → b v1 H Q → GoalB P w K mg base N x st f cdv A outer s H [v1] Q E) : Callee P w K mg base x (k + 1) [a1] (sp1 b) :=
  T.callee fun f fd F => F.ok S (fun vs H Q E ⟨_, e, _⟩ => by rw [e]; rfl) fun cdv A outer s H vs Q E hr hsp => by
    obtain ⟨v1, rfl, hb⟩ := hsp
    exact h f cdv A outer s H v1 Q E hr hb
theorem TopFn.ok2 {a1 a2 : Str} {b : V → V → Hp → VK → Prop} (T : TopFn K mg x st [a1, a2]) (S : FnScope N [a1, a2] (defScope st))
    (h : ∀ (f : Addr) (cdv : Value) (A : Around) (outer : List Env) (s : Shared) (H : Hp) (v1 v2 : V) (Q : VK) (E : XK), Room k (A.deeper (envOfC x (defScope st) s.heap.objs.size f cdv)) → b v1 v2 H Q → GoalB P w K mg base N x st f cdv A outer s H [v1, v2] Q E) : Callee P w K mg base x (k + 1) [a1, a2] (sp2 b) :=
  T.callee fun f fd F => F.ok S (fun vs H Q E ⟨_, _, e, _⟩ => by rw [e]; rfl) fun cdv A outer s H vs Q E hr hsp => by
    obtain ⟨v1, v2, rfl, hb⟩ := hsp
    exact h f cdv A outer s H v1 v2 Q E hr hb
theorem TopFn.ok3 {a1 a2 a3 : Str} {b : V → V → V → Hp → VK → Prop} (T : TopFn K mg x st [a1, a2, a3]) (S : FnScope N [a1, a2, a3] (defScope st))
    (h : ∀ (f : Addr) (cdv : Value) (A : Around) (outer : List Env) (s : Shared) (H : Hp) (v1 v2 v3 : V) (Q : VK) (E : XK), Room k (A.deeper (envOfC x (defScope st) s.heap.objs.size f cdv)) → b v1 v2 v3 H Q → GoalB P w K mg base N x st f cdv A outer s H [v1, v2, v3] Q E) : Callee P w K mg base x (k + 1) [a1, a2, a3] (sp3 b) :=
  T.callee fun f fd F => F.ok S (fun vs H Q E ⟨_, _, _, e, _⟩ => by rw [e]; rfl) fun cdv A outer s H vs Q E hr hsp => by
    obtain ⟨v1, v2, v3, rfl, hb⟩ := hsp
    exact h f cdv A outer s H v1 v2 v3 Q E hr hb
theorem TopFn.ok4 {a1 a2 a3 a4 : Str} {b : V → V → V → V → Hp → VK → Prop} (T : TopFn K mg x st [a1, a2, a3, a4]) (S : FnScope N [a1, a2, a3, a4] (defScope st))
    (h : ∀ (f : Addr) (cdv : Value) (A : Around) (outer : List Env) (s : Shared) (H : Hp) (v1 v2 v3 v4 : V) (Q : VK) (E : XK), Room k (A.deeper (envOfC x (defScope st) s.heap.objs.size f cdv)) → b v1 v2 v3 v4 H Q → GoalB P w K mg base N x st f cdv A outer s H [v1, v2, v3, v4] Q E) : Callee P w K mg base x (k + 1) [a1, a2, a3, a4] (sp4 b) :=
  T.callee fun f fd F => F.ok S (fun vs H Q E ⟨_, _, _, _, e, _⟩ => by rw [e]; rfl) fun cdv A outer s H vs Q E hr hsp => by
    obtain ⟨v1, v2, v3, v4, rfl, hb⟩ := hsp
    exact h f cdv A outer s H v1 v2 v3 v4 Q E hr hb
theorem TopFn.ok5 {a1 a2 a3 a4 a5 : Str} {b : V → V → V → V → V → Hp → VK → Prop} (T : TopFn K mg x st [a1, a2, a3, a4, a5]) (S : FnScope N [a1, a2, a3, a4, a5] (defScope st))
    (h : ∀ (f : Addr) (cdv : Value) (A : Around) (outer : List Env) (s : Shared) (H : Hp) (v1 v2 v3 v4 v5 : V) (Q : VK) (E : XK), Room k (A.deeper (envOfC x (defScope st) s.heap.objs.size f cdv)) → b v1 v2 v3 v4 v5 H Q → GoalB P w K mg base N x st f cdv A outer s H [v1, v2, v3, v4, v5] Q E) : Callee P w K mg base x (k + 1) [a1, a2, a3, a4, a5] (sp5 b) :=
  T.callee fun f fd F => F.ok S (fun vs H Q E ⟨_, _, _, _, _, e, _⟩ => by rw [e]; rfl) fun cdv A outer s H vs Q E hr hsp => by
    obtain ⟨v1, v2, v3, v4, v5, rfl, hb⟩ := hsp
    exact h f cdv A outer s H v1 v2 v3 v4 v5 Q E hr hb
theorem go_body {f : Addr} {cdv : Value} {A : Around} {outer : List Env} {s : Shared} {H : Hp} {vs : List V} {Q : VK} {E : XK} {t : TS} (σ : St) (hσ : start N vs = σ) (h : PSs (cxOf CX0 P w K mg base N x (defScope st) f cdv A outer s H E).nox (defBody st) t)
    (q : t { nx := fun _ H' => Q .non H', rt := Q } σ H) : GoalB P w K mg base N x st f cdv A outer s H vs Q E := ⟨t, h, by rw [hσ]; exact q⟩
end
end L2
namespace L2
open PySem PySem.Spec PyProof.Rows
theorem ite_no {b : Bool} {A B : Prop} (h : b = false) (q : B) : if b = true then A else B := by subst h; exact iteF q
theorem ite_yes {b : Bool} {A B : Prop} (h : b = true) (q : A) : if b = true then A else B := by subst h; exact iteT q
theorem ite_dn {c A B : Prop} [Decidable c] (h : ¬ c) (q : B) : if decide c = true then A else B := by rw [decide_eq_false h]; exact iteF q
theorem ite_dy {c A B : Prop} [Decidable c] (h : c) (q : A) : if decide c = true then A else B := by rw [decide_eq_true h]; exact iteT q
theorem ite_ny {c A B : Prop} [Decidable c] (h : ¬ c) (q : A) : if (!decide c) = true then A else B := by rw [decide_eq_false h]; exact iteT q
theorem ite_dd {c A B : Prop} [Decidable c] (h : c → A) (q : ¬ c → B) : if decide c = true then A else B := by
  by_cases e : c
  · exact ite_dy e (h e)
  · exact ite_dn e (q e)
theorem ite_nd {c A B : Prop} [Decidable c] (h : ¬ c → A) (q : c → B) : if (!decide c) = true then A else B := by
  by_cases e : c
  · exact iteNS e (q e)
  · exact ite_ny e (h e)
/-- a form as data -/
noncomputable def pairD (p : Int × Int) : D := .tup [.int p.1, .int p.2]
end L2
namespace L2
theorem small_le' {n : Nat} (h : n ≤ 1000000) : n ≤ PySem.sizeLine := Nat.le_trans h (by rw [PySem.sizeLine_eq]; decide)
end L2
namespace L2
theorem iteNT {A B : Prop} (h : B) : if (!true) = true then A else B := iteF h
theorem iteNF {A B : Prop} (h : A) : if (!false) = true then A else B := iteT h
end L2
namespace L2
open PySem
theorem cutV_ints (ns : List Int) (lo hi : Option Int) : ∃ ms : List Int, cutV (ns.map V.int) lo hi = ms.map V.int ∧ ms.length ≤ ns.length := by
  refine ⟨(ns.drop (HT.sIx (ns.map V.int).length 0 lo)).take (HT.sIx (ns.map V.int).length (ns.map V.int).length hi - HT.sIx (ns.map V.int).length 0 lo), ?_, ?_⟩
  · unfold cutV
    rw [List.map_take, List.map_drop]
  · rw [List.length_take, List.length_drop]
    omega
theorem rd_slL {K : PySem.W.Frag} {H : Hp} {a : Addr} {xs : List V} {lo hi : Option Int} {Q : VK} (h : SqL K H a xs) (q : ∀ p, H p = none → Q (.ref p) (upd H p (.lst (cutV xs lo hi)))) : rSlL K (.ref a) lo hi H Q := ⟨a, xs, rfl, h, q⟩
theorem rd_cat {H : Hp} {l b : Addr} {xs zs : List V} {Q : VK} (h1 : H l = some (.lst xs)) (h2 : H b = some (.lst zs)) (hl : xs.length + zs.length ≤ sizeLine) (q : ∀ p, H p = none → Q (.ref p) (upd H p (.lst (xs ++ zs)))) : rCat (.ref l) (.ref b) H Q := ⟨l, b, xs, zs, rfl, rfl, h1, h2, hl, q⟩
theorem ints_get {ns : List Int} {i : Nat} {x : V} (h : (ns.map V.int)[i]? = some x) : ∃ z, x = .int z ∧ ns[i]? = some z := by
  rw [List.getElem?_map] at h
  obtain ⟨z, e, rfl⟩ := Option.map_eq_some_iff.mp h
  exact ⟨z, rfl, e⟩
theorem upd_old {H : Hp} {a b : Addr} {o u : HO} (h : H b = some u) (hn : H a = none) : upd H a o b = some u := by rw [upd_ne (ne_of_none h hn)]; exact h
noncomputable def spLaw (K : PySem.W.Frag) : Sp := sp1 fun x H Q => ∃ (a : Addr) (ns : List Int), x = .ref a ∧ SqL K H a (ns.map V.int) ∧ ns.length ≤ 63 ∧ ∀ H', Q (.bl true) H'
theorem spLaw_of {K : PySem.W.Frag} {H : Hp} {a : Addr} {ns : List Int} {E : XK} (hl : ns.length ≤ 63) (hS : SqL K H a (ns.map V.int)) : spLaw K [.ref a] H (fun v _ => v = .bl true) E := ⟨_, rfl, a, ns, rfl, hS, hl, fun _ => rfl⟩
theorem Fun.law {P : Program} {w : World} {K : PySem.W.Frag} {mg : Str → Option Value} {base : Heap} {st : Stmt} {f : Addr} {fd : FuncData} {N : List Str} {k : Nat} (F : Fun K "law" "law" st f fd) (S : FnScope N ["script"] (defScope st))
    (h : ∀ (cdv : Value) (A : Around) (outer : List Env) (s : Shared) (H : Hp) (a : Addr) (ns : List Int) (Q : VK) (E : XK), Room k (A.deeper (PyProof.Rows.envOfC "law" (defScope st) s.heap.objs.size f cdv)) → SqL K H a (ns.map V.int) → ns.length ≤ 63 → (∀ H', Q (.bl true) H') →
      GoalB P w K mg base N "law" st f cdv A outer s H [.ref a] Q E) : FnOk P w K mg base CX0 (k + 1) f fd ["script"] (spLaw K) :=
  F.ok S (fun vs H Q E ⟨_, e, _⟩ => by rw [e]; rfl) fun cdv A outer s H vs Q E hr hsp => by
    obtain ⟨_, rfl, a, ns, rfl, h1, h2, h3⟩ := hsp
    exact h cdv A outer s H a ns Q E hr h1 h2 h3
end L2
namespace L2
theorem ten60 : (10 : Int) ^ (60 : Int).toNat = 1000000000000000000000000000000000000000000000000000000000000 := by decide +kernel
theorem cpow60 : CPow 10 60 := ⟨by decide, by decide, by decide⟩
theorem big_of {x : Int} (h : x.natAbs ≤ 10 ^ 70) : x.natAbs < 2 ^ 8000 := Nat.lt_of_le_of_lt h (by decide +kernel)
theorem cbig_of {x y : Int} (h : x.natAbs ≤ 10 ^ 70) (h2 : y.natAbs ≤ 10 ^ 70) : CBig x y := ⟨big_of h, big_of h2⟩
theorem cdivb_of {x y : Int} (h : 0 < y) (h2 : y.natAbs ≤ 10 ^ 70) : CDivB x y := ⟨h, big_of h2⟩
end L2

end
section
set_option Elab.async false
set_option linter.all false
set_option maxRecDepth 100000
set_option maxHeartbeats 4000000
namespace L2
open PySem
/-! ### the law's bag of numbers -/
noncomputable def bagL (l : Addr) (i m st c : Int) : List V := [.ref l, .int i, .int m, .int st, .int c]
structure BagAt (H : Hp) (b l : Addr) : Prop where
  ex : ∃ (xs : List Int) (i : Nat) (m st c : Int), H b = some (.lst (bagL l i m st c)) ∧ H l = some (.lst (xs.map V.int)) ∧ i ≤ xs.length ∧ (0 ≤ m ∧ m ≤ 10 ^ 60) ∧ (0 ≤ st ∧ st < 2147483647) ∧ (∀ x ∈ xs, 0 ≤ x ∧ x ≤ 10 ^ 60) ∧ xs.length ≤ 63
/-- all but b stays -/
noncomputable def BSame (b : Addr) (H H' : Hp) : Prop := ∀ a o, a ≠ b → H a = some o → H' a = some o
theorem BSame.refl (b : Addr) (H : Hp) : BSame b H H := fun _ _ _ h => h
theorem BSame.trans {b : Addr} {H H1 H2 : Hp} (x : BSame b H H1) (y : BSame b H1 H2) : BSame b H H2 := fun a o n h => y a o n (x a o n h)
theorem BSame.of {b : Addr} {H H' : Hp} (s : Same H H') : BSame b H H' := fun a o _ h => s a o h
theorem BSame.wr {b : Addr} {H : Hp} {o : HO} : BSame b H (upd H b o) := fun a u n h => by rw [upd_ne n]; exact h
theorem BagAt.lst {H : Hp} {b l : Addr} (B : BagAt H b l) : ∃ xs, H b = some (.lst xs) := let ⟨_, _, _, _, _, h, _⟩ := B.ex; ⟨_, h⟩
/-- tuples are none of the bag's -/
theorem BSame.ts {b l : Addr} {H H' : Hp} (x : BSame b H H') (B : BagAt H b l) : TSame H H' := fun a xs e => by
  obtain ⟨ys, hb⟩ := B.lst
  refine x a _ (fun z => ?_) e
  subst z
  rw [hb] at e
  cases e
theorem BagAt.mono {H H' : Hp} {b l : Addr} (B : BagAt H b l) (s : Same H H') : BagAt H' b l := by
  obtain ⟨xs, i, m, st, c, h1, h2, r⟩ := B.ex
  exact ⟨xs, i, m, st, c, s _ _ h1, s _ _ h2, r⟩
/-- another object is written -/
theorem BagAt.wr {H : Hp} {b l q : Addr} {o : HO} (B : BagAt H b l) (h1 : b ≠ q) (h2 : l ≠ q) : BagAt (upd H q o) b l := by
  obtain ⟨xs, i, m, st, c, e1, e2, r⟩ := B.ex
  exact ⟨xs, i, m, st, c, by rw [upd_ne h1]; exact e1, by rw [upd_ne h2]; exact e2, r⟩
theorem BagAt.ne {H : Hp} {b l q : Addr} (B : BagAt H b l) (h : H q = none) : b ≠ q ∧ l ≠ q := by
  obtain ⟨xs, i, m, st, c, e1, e2, r⟩ := B.ex
  exact ⟨ne_of_none e1 h, ne_of_none e2 h⟩
theorem BSame.wrNew {b q : Addr} {H H1 : Hp} {o : HO} (x : BSame b H H1) (h : H q = none) : BSame b H (upd H1 q o) := fun a u n e => by
  rw [upd_ne (ne_of_none e h)]
  exact x a u n e
theorem BSame.free {b q : Addr} {H H1 : Hp} (x : BSame b H H1) (n : q ≠ b) (h : H1 q = none) : H q = none := by
  cases e : H q with
  | none => rfl
  | some o =>
    rw [x q o n e] at h
    cases h
theorem BSame.to {b : Addr} {H H1 H2 : Hp} (x : BSame b H H1) (y : Same H1 H2) : BSame b H H2 := x.trans (BSame.of y)
/-- one draw: what it asks and what it gives -/
noncomputable def drawB (x y : V) (H : Hp) (Q : VK) : Prop := ∃ b l n, x = .ref b ∧ y = .int n ∧ (0 < n ∧ n ≤ 10 ^ 65) ∧ BagAt H b l ∧ ∀ r H', 0 ≤ r → r < n → BagAt H' b l → BSame b H H' → Q (.int r) H'
noncomputable def sp_draw : Sp := sp2 drawB
noncomputable def sp_number : Sp := sp1 fun x H Q => ∃ b l, x = .ref b ∧ BagAt H b l ∧ ∀ r H', r.natAbs ≤ 10 ^ 60 → BagAt H' b l → BSame b H H' → Q (.int r) H'
noncomputable def sp_bag (K : PySem.W.Frag) : Sp := sp1 fun x H Q => ∃ (a : Addr) (ns : List Int), x = .ref a ∧ SqL K H a (ns.map V.int) ∧ ns.length ≤ 63 ∧ ∀ b l H', H b = none → Same H H' → BagAt H' b l → Q (.ref b) H'
theorem reps_of_ints {H : Hp} : ∀ (ns : List Int), Reps H (ns.map D.int) (ns.map V.int)
  | [] => reps_nil
  | n :: ns => reps_cons rep_int (reps_of_ints ns)
theorem pls_ints : ∀ (ns : List Int), D.pls (ns.map D.int) = true
  | [] => rfl
  | n :: ns => by rw [List.map_cons, D.pls, pls_ints ns]; rfl
theorem deps_ints : ∀ (ns : List Int), D.deps (ns.map D.int) = 0
  | [] => rfl
  | n :: ns => by rw [List.map_cons, D.deps, deps_ints ns]; rfl
end L2

end
section
set_option Elab.async false
set_option linter.all false
set_option maxRecDepth 100000
set_option maxHeartbeats 4000000
namespace L3
open PySem PyProof.Rows
/-! ### timsort over any keys that are ordered by a number -/
class KOrd where
  kd : SortKind
  good : Keyed → Prop
  kv : Keyed → Int
noncomputable abbrev oneType' [KOrd] : SortKind := KOrd.kd
noncomputable def IntK [KOrd] (x : Keyed) : Prop := KOrd.good x
noncomputable def kvl [KOrd] (x : Keyed) : Int := KOrd.kv x
noncomputable def K [KOrd] (xs : Array Keyed) (i : Nat) : Int := match xs[i]? with
  | some q => kvl q
  | none => 0
class KLt [KOrd] (P : Program) (W : World) (A : Around) (E : Value → Shared → Prop) (z : Shared) : Prop where
  lt : ∀ {u : SortSt} {x y : Keyed} {Q : Option Bool → SortSt → Prop}, kindOf u = oneType' → IntK x → IntK y → Q (some (decide (kvl x < kvl y))) u → wpS (model P W) A E z (lt' x y) Q u
section
variable [KOrd]
end
/-! ### the search by doubling steps -/
section
variable [KOrd] {P : Program} {W : World} {A : Around} {E : Value → Shared → Prop} {z : Shared} [KLt P W A E z]
end
end L3

end
section
set_option Elab.async false
set_option linter.all false
set_option maxRecDepth 100000
set_option maxHeartbeats 4000000
namespace L3
open PySem PyProof.Rows
variable [KOrd]
/-! ### two rising lists laid together -/
section
variable {a b out : List Keyed} {ia ib : Nat}
end
section
variable {P : Program} {W : World} {A : Around} {E : Value → Shared → Prop} {z : Shared} [KLt P W A E z]
/-- what a merge leaves as it is -/
structure Fr (u v : SortSt) : Prop where
  kind : kindOf v = kindOf u
  arr : arrOf v = arrOf u
  pend : pendingOf v = pendingOf u
  failed : failedOf v = failedOf u
end

/-! ### arrays as lists -/
/-! ### the merge from the low end -/
section
variable {a b out : Array Keyed} {ia ib : Nat}
end
section
variable {P : Program} {W : World} {A : Around} {E : Value → Shared → Prop} {z : Shared} [KLt P W A E z]
end
end L3

end
section
set_option Elab.async false
set_option linter.all false
set_option maxRecDepth 100000
set_option maxHeartbeats 4000000
namespace L3
open PySem PyProof.Rows
variable [KOrd]
/-! ### the merge from the high end -/
section
variable {a b out : List Keyed} {na nb : Nat}
end
section
variable {a b out : Array Keyed} {na nb : Nat}
end
section
variable {P : Program} {W : World} {A : Around} {E : Value → Shared → Prop} {z : Shared} [KLt P W A E z]
end
end L3

end
section
set_option Elab.async false
set_option linter.all false
set_option maxRecDepth 100000
set_option maxHeartbeats 4000000
namespace L3
open PySem PyProof.Rows
variable [KOrd]
/-! ### runs laid together in the array -/
section
variable {P : Program} {W : World} {A : Around} {E : Value → Shared → Prop} {z : Shared} [KLt P W A E z]
end
end L3

end
section
set_option Elab.async false
set_option linter.all false
set_option maxRecDepth 100000
set_option maxHeartbeats 4000000
namespace L3
open PySem PyProof.Rows
variable [KOrd]
/-! ### runs found and lengthened, wherever they begin -/
section
variable {P : Program} {W : World} {A : Around} {E : Value → Shared → Prop} {z : Shared} [KLt P W A E z] {a₀ : Array Keyed} {p : Array (Nat × Nat × Nat)}
end
end L3

end
section
set_option Elab.async false
set_option linter.all false
set_option maxRecDepth 100000
set_option maxHeartbeats 4000000
namespace L3
open PySem PyProof.Rows
variable [KOrd]
section
variable {P : Program} {W : World} {A : Around} {E : Value → Shared → Prop} {z : Shared} [KLt P W A E z] {a₀ : Array Keyed} {p : Array (Nat × Nat × Nat)}
end
/-! ### the stack of runs -/
end L3

end
section
set_option Elab.async false
set_option linter.all false
set_option maxRecDepth 100000
set_option maxHeartbeats 4000000
namespace L3
open PySem PyProof.Rows
variable [KOrd]
section
variable {u v : SortSt} {sa n : Nat}
end
section
variable {P : Program} {W : World} {A : Around} {E : Value → Shared → Prop} {z : Shared} [KLt P W A E z] {a₀ : Array Keyed}
end
end L3

end
section
set_option Elab.async false
set_option linter.all false
set_option maxRecDepth 100000
set_option maxHeartbeats 4000000
namespace L2
open PySem PySem.Spec PyProof.Rows
/-! ### list.sort of ints, by what its runs do -/
section
variable {P : Program} {W : World} {A : Around} {E : Value → Shared → Prop} {z : Shared}
end
theorem Un.track' {fs ex : List Addr} {H H1 : Hp} {h h1 : Heap} {a : Addr} {o : HO} (u : Un fs ex H H1 h h1) (hne : ∀ b o, h.get? b = some o → b ≠ a) (hn : H a = none) : Un fs ex H (upd H1 a o) h h1 where
  keep := u.keep
  slot := u.slot
  free := fun b ob q n hx => by
    rw [upd_ne (hne b ob q)]
    exact u.free b ob q n hx
  there := u.there
  tups := fun b xs q => by
    rw [upd_ne (fun z => by rw [z, hn] at q; cases q)]
    exact u.tups b xs q
  frzs := fun b ob x q => by
    rw [upd_ne (fun z => by rw [z, hn] at q; cases q)]
    exact u.frzs b ob x q
  tbls := fun b ps q => by
    rw [upd_ne (fun z => by rw [z, hn] at q; cases q)]
    exact u.tbls b ps q
theorem ObjOk.there {P : Program} {w : World} {H : Hp} {h : Heap} {a : Addr} {o : HO} (x : ObjOk P w H h a o) : ∃ ob, h.get? a = some ob := by
  cases o with
  | lst xs => obtain ⟨_, _, _, _, e⟩ := x; exact ⟨_, e⟩
  | tup xs => obtain ⟨_, _, _, ob, e, _⟩ := x; exact ⟨_, e⟩
  | dK kvs => obtain ⟨_, _, _, _, o, _, _, e, _⟩ := x; exact ⟨_, e⟩
  | dT kvs => obtain ⟨_, _, _, _, o, _, _, e, _⟩ := x; exact ⟨_, e⟩
  | set S n => obtain ⟨o, _, _, _, e, _⟩ := x; exact ⟨_, e⟩
  | ins C dx fs => obtain ⟨_, _, _, e, _⟩ := x; exact ⟨_, e⟩
  | own y => exact x
  | xd fs => obtain ⟨_, ⟨o, _, _, e, _⟩, _⟩ := x; exact ⟨_, e⟩
  | rng lo hi => obtain ⟨_, _, _, e⟩ := x; exact ⟨_, e⟩
  | frz ob u => obtain ⟨e, _⟩ := x; exact ⟨_, e⟩
  | tbl ps => exact ⟨_, x⟩
  | met f y => exact ⟨_, x⟩
  | ext φ => obtain ⟨_, e, _⟩ := x; exact e
/-! ### sorted(d), d a dict whose keys are ints -/
theorem KV.at' {κ : Type} : ∀ {kvs : List (κ × V)} {vs : List (κ × Value)} {j : Nat} {k : κ} {x : Value}, KV kvs vs → vs[j]? = some (k, x) → ∃ p, kvs[j]? = some p ∧ p.1 = k
  | _, _, j, k, x, .nil, e => by simp at e
  | p :: _, q :: _, 0, k, x, .cons r _, e => by
    simp at e
    subst e
    exact ⟨p, rfl, r.1⟩
  | p :: ps, q :: qs, j + 1, k, x, .cons _ t, e => by
    obtain ⟨p', e1, e2⟩ := KV.at' (j := j) (kvs := ps) (vs := qs) t (by simpa using e)
    exact ⟨p', by simpa using e1, e2⟩
end L2
namespace L2
open PySem
/-! ### the numbers by words: a dict of ints -/
end L2
namespace L2
open PySem
theorem rd_dget2 {td ty tx : TE} {σ : St} {H : Hp} {Q : VK} (h : td σ H fun x H1 => ∃ a, x = .ref a ∧ IsD H1 a ∧ ty σ H1 fun y H2 => tx σ H2 fun z H3 => ∃ o, DGet H3 a y o ∧ Q (o.getD z) H3) : tDGet2 td ty tx σ H Q := h
theorem rd_dget {td ty : TE} {σ : St} {H : Hp} {Q : VK} (h : td σ H fun x H1 => ty σ H1 fun y H2 => ∃ a v, x = .ref a ∧ DGet H2 a y (some v) ∧ Q v H2) : tDGet td ty σ H Q := h
end L2
namespace L2
open PySem
end L2

end
section
set_option Elab.async false
set_option linter.all false
set_option maxRecDepth 100000
set_option maxHeartbeats 4000000
namespace L3
open PySem
/-! ### the places of a set's table rise -/
/-! ### any order of a list -/
end L3

end
section
set_option Elab.async false
set_option linter.all false
set_option maxRecDepth 100000
set_option maxHeartbeats 4000000
namespace L3
open PySem PyProof.Rows
/-! ### a set of ints, its table known -/
section
variable {P : Program} {w : World} {A : Around} {E : Value → Shared → Prop} {s : Shared}
end
section
variable {P : Program} {w : World} {A : Around} {R : Result → Shared → Prop} {I : Addr} {fp wr : List Addr} {G : Array GenState → Array GenState → Prop} {n : Nat} {Pv : Nat → Value → Prop} {St : Nat → Shared → Prop}
end
section
variable {P : Program} {w : World} {A : Around} {E : Value → Shared → Prop} {s : Shared}
end
end L3

end
section
set_option Elab.async false
set_option linter.all false
set_option maxRecDepth 100000
set_option maxHeartbeats 4000000
namespace L3
open PySem
section
variable {M : Model} {A : Around} {E : Value → Shared → Prop} {s : Shared}
end
end L3

end
section
set_option Elab.async false
set_option linter.all false
set_option maxRecDepth 100000
set_option maxHeartbeats 4000000
namespace L3
open PySem
section
variable {P : Program} {w : World} {A : Around} {E : Value → Shared → Prop} {s : Shared} {it a : Addr} {S : Int → Bool} {led : Bool} {o : Obj} {es : Array (Int × Value)} {ep : Nat} {t : SetTable}
/-! ### what setNext tells -/
/-! ### walks over the set, in whatever order -/
end
end L3

end
section
set_option Elab.async false
set_option linter.all false
set_option maxRecDepth 100000
set_option maxHeartbeats 4000000
namespace L3
open PySem PyProof.Rows
section
variable {P : Program} {w : World} {A : Around} {E : Value → Shared → Prop} {s : Shared}
/-! ### the things of a list, each once -/
noncomputable def dd (ns : List Int) : List Int := firstMet (fun i => ns.getD i 0) ns.length
end
end L3

end
section
set_option Elab.async false
set_option linter.all false
set_option maxRecDepth 100000
set_option maxHeartbeats 4000000
namespace L2
open PySem PySem.Spec PyProof.Rows
/-! ### is None -/
noncomputable def rIsN : R2 := fun x y H Q => y = .non ∧ Q (.bl (decide (x = .non))) H
theorem op_isN' {X : Cx} : OpR X (compareOp .Is) rIsN := op_isN
theorem rd_isN {x : V} {H : Hp} {Q : VK} (q : Q (.bl (decide (x = .non))) H) : rIsN x .non H Q := ⟨rfl, q⟩
/-! ### parts of a list -/
theorem sIx_nat (n d k : Nat) : HT.sIx n d (some (k : Int)) = min k n := by
  simp only [HT.sIx]
  rw [if_neg (by omega)]
  simp
theorem cut_to {xs : List V} {k : Nat} (h : k ≤ xs.length) : cutV xs none (some (k : Int)) = xs.take k := by
  unfold cutV
  have e1 : HT.sIx xs.length 0 none = 0 := rfl
  have e2 : HT.sIx xs.length xs.length (some (k : Int)) = k := by
    rw [sIx_nat]
    omega
  rw [e1, e2]
  simp
theorem cut_from {xs : List V} {k : Nat} (h : k ≤ xs.length) : cutV xs (some (k : Int)) none = xs.drop k := by
  unfold cutV
  have e1 : HT.sIx xs.length 0 (some (k : Int)) = k := by
    rw [sIx_nat]
    omega
  have e2 : HT.sIx xs.length xs.length none = xs.length := rfl
  rw [e1, e2]
  simp [List.take_of_length_le]
/-! ### xs[::-1] -/
section
variable {X : Cx}
end
/-! ### set(list of ints), sorted(set) -/
section
variable {X : Cx}
end
/-! ### lists that are rising -/
theorem rd_neNil {K : PySem.W.Frag} {H : Hp} {a b : Addr} {xs : List V} {ds : List D} {Q : VK} (h1 : SqL K H a xs) (r : Reps H ds xs) (pd : D.pls ds = true) (hd : D.deps ds ≤ 40) (h2 : H b = some (.lst [])) (q : Q (.bl (!decide (ds = []))) H) : rNeL K (.ref a) (.ref b) H Q := by
  refine ⟨a, b, xs, [], ds, [], rfl, rfl, h1, SqL.of h2, r, reps_nil, pd, rfl, hd, ?_⟩
  have e : eqD (.tup ds) (.tup []) = decide (ds = []) := by
    by_cases h : ds = []
    · subst h
      rw [eqD_same]
      simp
    · rw [eqD_false (by intro z; cases z; exact h rfl)]
      simp [h]
  rw [e]
  exact q
theorem rd_eqLI {K : PySem.W.Frag} {H : Hp} {a b : Addr} {ns ms : List Int} {Q : VK} (h1 : SqL K H a (ns.map V.int)) (h2 : SqL K H b (ms.map V.int)) (q : Q (.bl (decide (ns = ms))) H) : rEqL K (.ref a) (.ref b) H Q := by
  refine ⟨a, b, _, _, ns.map D.int, ms.map D.int, rfl, rfl, h1, h2, reps_of_ints ns, reps_of_ints ms, pls_ints _, pls_ints _, by rw [deps_ints]; omega, ?_⟩
  have e : eqD (.tup (ns.map D.int)) (.tup (ms.map D.int)) = decide (ns = ms) := by
    by_cases h : ns = ms
    · subst h
      rw [eqD_same]
      simp
    · rw [eqD_false ?_]
      · simp [h]
      · intro z
        injection z with z
        exact h (List.map_inj_right (fun x y e => by injection e) |>.mp z)
  rw [e]
  exact q
end L2

end
section
set_option Elab.async false
set_option linter.all false
set_option maxRecDepth 100000
set_option maxHeartbeats 4000000
namespace L2
open PySem PySem.Spec PyProof.Rows
/-! ### for over the signs of a text -/
noncomputable def Its (x : Str) : It := ⟨fun i _ => i < x.cps.size, fun i H v H' => H' = H ∧ ∃ c, x.cps[i]? = some c ∧ v = .str ⟨#[c]⟩, fun i _ => x.cps.size ≤ i⟩
theorem turn_str {P : Program} {w : World} {K : PySem.W.Frag} {tg : Expr} (x : Str) (t : Tok) (it : Addr) : Turn P w K tg (Its x) [it] it (fun i h => h.IsStrIter it "str_ascii_iterator" x t i) where
  mem := by simp
  obj := fun i h st b hb => by
    have e : b = it := by simpa using hb
    subst e
    obtain ⟨o, e, c, d⟩ := st
    exact ⟨o, e, fun v z => by rw [d] at z; cases z⟩
  keep := fun i h h' st k => by
    obtain ⟨o, e, c, d⟩ := st
    exact ⟨o, k it (by simp) o e, c, d⟩
  item := by
    intro X hP hw hK hc i pins s σ H E I hf st hg
    subst hP hw hK
    have hg : i < x.cps.size := hg
    obtain ⟨f0, f1, f2, f3, f4, f5⟩ := hf it (by simp)
    have hx : x.cps[i]? = some x.cps[i] := Array.getElem?_eq_getElem hg
    refine wpAny_pyNext_ascii_item st hx fun h' st' sb => ?_
    have I1 : Inv X pins σ H { s with heap := h', toks := s.toks + 1 } := I.turned (t' := s.toks + 1) (fun b o hb e => (sb.2 b hb).trans e) f0 f1 f3 f4 f5
    obtain ⟨o, e, c, d⟩ := id st'
    exact ⟨_, rfl, go_of (s := { s with heap := h', toks := s.toks + 1 }) e c d (by decide) ⟨.str ⟨#[x.cps[i]]⟩, H, I1, ⟨_, rfl⟩, ⟨rfl, _, hx, rfl⟩, st', fun b hb => (hf b hb).1⟩⟩
  done := by
    intro X hP hw hK hc i pins s σ H E I hf st hg
    subst hP hw hK
    have hg : x.cps.size ≤ i := hg
    obtain ⟨f0, f1, f2, f3, f4, f5⟩ := hf it (by simp)
    exact wpAny_pyNext_ascii_end (I.ok.hd hc) st (Array.getElem?_eq_none hg) fun h' eb => ⟨rfl, I.turned (t' := s.toks) (fun b o hb e => eb b o hb e) f0 f1 f3 f4 f5⟩
  self := fun _ _ _ _ _ st h => wpAny_pyIter_striter_ascii st h
section
variable {X : Cx} {tg : Expr}
noncomputable def iStr (tl : TE) : TI := fun σ H R => tl σ H fun x H1 => ∃ z, x = .str z ∧ z.cps.all (· < 128) = true ∧ R (Its z) H1
theorem pi_str {l : Expr} {tl : TE} (hl : PE X l tl) : PI X tg l (iStr tl) := by
  intro pins s σ H R I h
  refine thn (hl pins s σ H _ I h) fun v s1 ⟨x, H1, I1, r1, q1⟩ => ?_
  obtain ⟨z, e, ha, q⟩ := q1
  subst e
  obtain ⟨t, rfl⟩ := r1
  refine wpAny_pyIter_ascii ha ?_
  refine ⟨s1.heap.objs.size, [s1.heap.objs.size], _, _, H1, rfl, I1.kept (t' := s1.toks) fun b o e => Heap.get?_push_of_some _ e, turn_str z t _, ⟨_, Heap.get?_push_size _ rfl, rfl, rfl⟩, fun b hb => ?_, q⟩
  have e : b = s1.heap.objs.size := by simpa using hb
  subst e
  exact I1.fpOk (Nat.le_refl _) (I1.hok.fresh (Nat.le_refl _))
end
theorem rd_istr {σ : St} {H : Hp} {R : It → Hp → Prop} {tl : TE} (h : tl σ H fun x H1 => ∃ z, x = .str z ∧ z.cps.all (· < 128) = true ∧ R (Its z) H1) : iStr tl σ H R := h
theorem for_str {z : Str} {g : TG} {tb : TS} {D' : Ends} {σ : St} {H : Hp} (Pv : Nat → St → Hp → Prop) (h0 : Pv 0 σ H)
    (hs : ∀ i c σ H, z.cps[i]? = some c → Pv i σ H → g (.str ⟨#[c]⟩) σ H fun σ2 H2 => tb { D' with nx := Pv (i + 1), ct := Pv (i + 1), bk := D'.nx } σ2 H2) (hd : ∀ σ H, Pv z.cps.size σ H → D'.nx σ H) :
    ∃ W : Nat → Nat → St → Hp → Prop, (∃ m, W 0 m σ H) ∧ ∀ i m σ H, W i m σ H →
      ((Its z).stop i H ∧ D'.nx σ H) ∨ ((Its z).go i H ∧ ∃ N : St → Hp → Prop, (∀ σ' H', N σ' H' → ∃ m', m' < m ∧ W (i + 1) m' σ' H') ∧ ∀ x H', (Its z).yld i H x H' → g x σ H' fun σ2 H2 => tb { D' with nx := N, ct := N, bk := D'.nx } σ2 H2) := by
  refine ⟨fun i m σ H => m = z.cps.size - i ∧ i ≤ z.cps.size ∧ Pv i σ H, ⟨z.cps.size, by simp, Nat.zero_le _, h0⟩, ?_⟩
  rintro i m σ H ⟨rfl, hi, p⟩
  by_cases hlt : i < z.cps.size
  · refine .inr ⟨hlt, Pv (i + 1), fun σ' H' p' => ⟨z.cps.size - (i + 1), by omega, rfl, hlt, p'⟩, ?_⟩
    rintro x H' ⟨rfl, c, hc, rfl⟩
    exact hs i c σ _ hc p
  · have e : i = z.cps.size := by omega
    subst e
    exact .inl ⟨Nat.le_refl _, hd σ H p⟩
theorem cw_str {z : Str} {g : TG} {tt : TT} {te : TE} {Q : VK} {σ : St} {H : Hp} (hz : z.cps.size ≤ sizeLine) (Pv : Nat → List V → St → Hp → Prop) (h0 : Pv 0 [] σ H)
    (hs : ∀ i c ys σ H, z.cps[i]? = some c → ys.length ≤ i → ys.length < sizeLine → Pv i ys σ H → g (.str ⟨#[c]⟩) σ H fun σ2 H3 => tt σ2 H3 fun ok H4 => if ok = true then te σ2 H4 fun y H5 => ys.length < sizeLine ∧ CN Pv i (ys ++ [y]) σ2 H5 else CN Pv i ys σ2 H4)
    (hd : ∀ ys σ H, ys.length ≤ z.cps.size → Pv z.cps.size ys σ H → ∀ p, H p = none → Q (.ref p) (upd H p (.lst ys))) :
    ∃ W : Nat → Nat → List V → St → Hp → Prop, (∃ m, W 0 m [] σ H) ∧ CW (Its z) g tt te W Q := by
  refine cw_of z.cps.size hz Pv h0 (fun i ys σ H hi p => hi) (fun ys σ H p => Nat.le_refl _) (fun i x ys σ H H2 hi h1 h2 p y => ?_) hd
  obtain ⟨rfl, c, hc, rfl⟩ := y
  exact hs i c ys σ _ hc h1 h2 p
end L2

end
section
set_option Elab.async false
set_option linter.all false
set_option maxRecDepth 100000
set_option maxHeartbeats 4000000
namespace L2
open PySem PySem.Spec PyProof.Rows
/-! ### list(d): the keys of a dict, in their order -/
noncomputable def rLstD : List V → Hp → VK → Prop := fun xs H Q => ∃ (a : Addr) (kvs : List (Key × V)), xs = [.ref a] ∧ H a = some (.dK kvs) ∧ ∀ p, H p = none → Q (.ref p) (upd H p (.lst (kvs.map fun q => kV q.1)))
theorem key_rel {k : Key} {v : Value} (h : keyIs k v = true) : RelV (kV k) v := by
  cases k with
  | inl i =>
    obtain ⟨t, rfl⟩ := Value.isInt_shape (k := i) (v := v) h
    exact ⟨t, rfl⟩
  | inr x =>
    obtain ⟨t, rfl⟩ := Value.isStrOf_shape (x := x) (v := v) h
    exact ⟨t, rfl⟩
theorem vals_by : ∀ {xs : List V} {us : List Value}, us.length = xs.length → (∀ (j : Nat) u, us[j]? = some u → ∃ x, xs[j]? = some x ∧ RelV x u) → Vals xs us
  | [], [], _, _ => .nil
  | x :: xs, [], h, _ => by cases h
  | [], u :: us, h, _ => by cases h
  | x :: xs, u :: us, h, k => by
    obtain ⟨y, e, r⟩ := k 0 u rfl
    cases e
    exact .cons r (vals_by (by simpa using h) fun j v e => by
      obtain ⟨y', e', r'⟩ := k (j + 1) v (by simpa using e)
      exact ⟨y', by simpa using e', r'⟩)
theorem call_listD {X : Cx} (hc : X.calm = true) : CallR X (.type "list") rLstD := by
  intro pins s σ H xs us Q I r h
  obtain ⟨a, kvs, rfl, ha, q⟩ := h
  obtain ⟨u, rfl, ru⟩ := vals1 r
  cases ru
  obtain ⟨hz, hS, vs, kv, hd⟩ := (show ObjOk X.prog X.w H s.heap a (.dK kvs) from I.hok a _ ha)
  obtain ⟨ep, hat⟩ := hd.dictAt
  have hlen : kvs.length = vs.length := Paired.length kv
  refine PySem.W.kdl_call (PySem.W.kdl_dict (knd := mixKind X.prog X.w) (kvs := vs) (ep := ep) hS) (I.ok.hd hc) hat (by omega) fun h' tk acc c' keep hat' hacc => ?_
  have hal : acc.toList.length = vs.length := by rw [Array.length_toList]; exact hacc.1
  have hv : Vals (kvs.map fun q => kV q.1) acc.toList := vals_by (by rw [List.length_map]; omega) fun j u e => by
    obtain ⟨k, x, e1, e2⟩ := hacc.2 j u (by rw [← Array.getElem?_toList]; exact e)
    obtain ⟨p, ep1, ep2⟩ := KV.at' kv e1
    exact ⟨kV k, by rw [List.getElem?_map, ep1, Option.map_some, ep2], key_rel e2⟩
  have hne : ∀ b o, s.heap.get? b = some o → b ≠ s.heap.objs.size := fun b o e => Nat.ne_of_lt (Heap.lt_size e)
  have hH : H s.heap.objs.size = none := by
    cases e : H s.heap.objs.size with
    | none => rfl
    | some o =>
      obtain ⟨o', e'⟩ := (I.hok _ o e).there
      exact absurd rfl (hne _ o' e')
  refine ⟨.ref s.heap.objs.size, upd H s.heap.objs.size (.lst (kvs.map fun q => kV q.1)), I.un (Un.track' (Un.kept keep) hne hH) (HOk.track (I.hok.kept keep) hH ⟨by rw [List.length_map]; omega, acc.toList, c', hv, ?_⟩), rfl, q _ hH⟩
  simpa using hat'
end L2

end
section
set_option Elab.async false
set_option linter.all false
set_option maxRecDepth 100000
set_option maxHeartbeats 4000000
namespace L2
open PySem PySem.Spec PyProof.Rows
theorem k_pi_str {X : Cx} {K : PySem.W.Frag} {tg l : Expr} {tl : TE} (h : X.K = K) (hl : PE X l tl) : PI X tg l (iStr tl) := pi_str hl
theorem k_catT {X : Cx} {K : PySem.W.Frag} (h : X.K = K) : OpR X (binaryOp .Add) (rCatT K) := h ▸ op_catT
/-! ### rows of a program, as data -/
noncomputable def lettersL : List (Str × Str) := [("put", "pi"), ("copy", "pp"), ("plus", "ppp"), ("less", "ppp"), ("times", "ppc"), ("take", "p"), ("tell", "p"), ("jump", "t"), ("zero", "pt"), ("below", "pt"), ("call", "pfq"), ("back", "p")]
noncomputable def lettersKV : List (Key × V) := lettersL.map fun q => (Sum.inr q.1, V.str q.2)
/-- a part of a row by its letter -/
noncomputable def PartI (boxes many ns : Int) (c : Str) (n : Int) : Prop := (c = "p" → 0 ≤ n ∧ n < boxes) ∧ (c = "t" → 0 ≤ n ∧ n < many) ∧ (c = "f" → 0 ≤ n ∧ n < ns) ∧ (c = "c" → -99 ≤ n ∧ n ≤ 99) ∧ n.natAbs ≤ 10 ^ 60
noncomputable def PartG (sg : List (Int × Int)) (boxes many : Int) (ps : List D) (c : Str) (d : D) : Prop :=
  (c ≠ "q" ∧ ∃ n, d = .int n ∧ PartI boxes many sg.length c n) ∨
  (c = "q" ∧ ∃ (args : List Int) (f : Nat) (tk : Int × Int), ps[1]? = some (.int f) ∧ sg[f]? = some tk ∧ d = .tup (args.map D.int) ∧ (args.length : Int) = tk.1 ∧ ∀ q ∈ args, 0 ≤ q ∧ q < boxes)
structure RowG (sg : List (Int × Int)) (boxes many : Int) (w ls : Str) (ps : List D) : Prop where
  tab : (w, ls) ∈ lettersL
  len : ps.length = ls.cps.size
  parts : ∀ (i c : Nat), ls.cps[i]? = some c → ∃ d, ps[i]? = some d ∧ PartG sg boxes many ps ⟨#[c]⟩ d
noncomputable def rowD (r : Str × List D) : D := .tup (.str r.1 :: r.2)
noncomputable def RowOk (sg : List (Int × Int)) (boxes many : Int) (r : Str × List D) : Prop := ∃ ls, RowG sg boxes many r.1 ls r.2
structure RowsOk (sg : List (Int × Int)) (boxes many : Int) (rs : List (Str × List D)) : Prop where
  len : (rs.length : Int) = many
  all : ∀ r ∈ rs, RowOk sg boxes many r
  last : ∃ r, rs[rs.length - 1]? = some r ∧ (r.1 = "back" ∨ r.1 = "jump")
structure SgOk (sg : List (Int × Int)) : Prop where
  pos : 0 < sg.length
  few : sg.length ≤ 6
  first : ∃ bx, sg[0]? = some (0, bx)
  all : ∀ q ∈ sg, 0 ≤ q.1 ∧ q.1 ≤ 4 ∧ q.1 ≤ q.2 ∧ 1 ≤ q.2 ∧ q.2 ≤ 8
theorem only_ascii : ∀ q ∈ lettersL, q.2.cps.all (· < 128) = true := by decide +kernel
noncomputable def qOk (q : Str × Str) (i : Nat) : Bool := decide ((⟨#[q.2.cps.getD i 0]⟩ : Str) = "q" → i = 2 ∧ 1 < q.2.cps.size ∧ (⟨#[q.2.cps.getD 1 0]⟩ : Str) = "f")
theorem q_all : (lettersL.all fun q => (List.range q.2.cps.size).all (qOk q)) = true := by decide +kernel
theorem q_at {w ls : Str} (h : (w, ls) ∈ lettersL) {i c : Nat} (e : ls.cps[i]? = some c) (hq : (⟨#[c]⟩ : Str) = "q") : i = 2 ∧ ∃ c', ls.cps[1]? = some c' ∧ (⟨#[c']⟩ : Str) = "f" := by
  have hi := (Array.getElem?_eq_some_iff.mp e).1
  have h1 := List.all_eq_true.mp q_all _ h
  have h2 := List.all_eq_true.mp h1 i (List.mem_range.mpr hi)
  have hc : ls.cps.getD i 0 = c := by
    rw [Array.getElem?_eq_getElem hi] at e
    simp [Array.getD, hi]
    exact Option.some.inj e
  unfold qOk at h2
  rw [decide_eq_true_eq] at h2
  dsimp only at h2
  rw [hc] at h2
  obtain ⟨a, b, d⟩ := h2 hq
  exact ⟨a, _, Array.getElem?_eq_getElem b, by simpa [Array.getD, b] using d⟩
theorem letters_val {w ls : Str} (h : (w, ls) ∈ lettersL) : valV lettersKV (Sum.inr w : Key) = some (V.str ls) := by
  have hk : ∀ q ∈ lettersL, (lettersL.find? fun p => decide (p.1 = q.1)) = some q := by decide +kernel
  have e := hk _ h
  unfold valV lettersKV
  rw [List.find?_map]
  have e2 : ((fun kv : Key × V => decide (kv.1 = Sum.inr w)) ∘ fun q : Str × Str => ((Sum.inr q.1 : Key), V.str q.2)) = fun p : Str × Str => decide (p.1 = w) := by
    funext p
    simp
  rw [e2, e]
  rfl
theorem merge_new : ∀ (more acc : List (Key × V)), ((acc ++ more).map (·.1)).Nodup → mergeK acc more = acc ++ more
  | [], acc, _ => by rw [List.append_nil]; rfl
  | q :: more, acc, h => by
    have hv : valV acc q.1 = none := by
      cases e : valV acc q.1 with
      | none => rfl
      | some v =>
        have hm := valV_in e
        rw [List.map_append, List.map_cons] at h
        exact absurd rfl ((List.nodup_append.mp h).2.2 q.1 hm q.1 List.mem_cons_self)
    show mergeK (putK acc q.1 q.2) more = acc ++ q :: more
    rw [putK_new _ hv, merge_new more (acc ++ [(q.1, q.2)]) (by simpa using h)]
    simp
theorem merge_letters : mergeK [] lettersKV = lettersKV := merge_new lettersKV [] (by decide +kernel)
theorem tPairs_c {σ : St} : ∀ (l : List (V × V)) {H : Hp} {Q : List (V × V) → Hp → Prop}, Q l H → tPairs (l.map fun q => (tC q.1, tC q.2)) σ H Q
  | [], _, _, h => h
  | (x, y) :: l, H, Q, h => tPairs_c l (Q := fun ps H3 => Q ((x, y) :: ps) H3) h
/-! ### a program in the heap: a list of tuples, each with a list of rows -/
noncomputable abbrev PDef := Int × Int × List (Str × List D)
noncomputable def DefAt (av : List Addr) (H : Hp) (d : PDef) (v : V) : Prop := ∃ t q ys, v = .ref t ∧ H t = some (.tup [.int d.1, .int d.2.1, .ref q]) ∧ H q = some (.lst ys) ∧ q ∉ av ∧ Reps H (d.2.2.map rowD) ys
noncomputable def DefsAt (av : List Addr) (H : Hp) : List PDef → List V → Prop
  | [], vs => vs = []
  | d :: ds, vs => ∃ v r, vs = v :: r ∧ DefAt av H d v ∧ DefsAt av H ds r
/-- lists of rows but the avoided ones stay, and all tuples -/
theorem DefAt.by {av : List Addr} {H H' : Hp} {d : PDef} {v : V} (h : DefAt av H d v) (s : ∀ a xs, a ∉ av → H a = some (.lst xs) → H' a = some (.lst xs)) (t : TSame H H') : DefAt av H' d v := by
  obtain ⟨a, q, ys, rfl, h1, h2, n, r⟩ := h
  exact ⟨a, q, ys, rfl, t _ _ h1, s _ _ n h2, n, r.mono t⟩
theorem DefsAt.by {av : List Addr} {H H' : Hp} (s : ∀ a xs, a ∉ av → H a = some (.lst xs) → H' a = some (.lst xs)) (t : TSame H H') : ∀ {ds : List PDef} {vs : List V}, DefsAt av H ds vs → DefsAt av H' ds vs
  | [], _, h => h
  | d :: ds, vs, h => by
    obtain ⟨v, r, e, h1, h2⟩ := h
    exact ⟨v, r, e, h1.by s t, DefsAt.by s t h2⟩
theorem DefsAt.bs {av : List Addr} {b l : Addr} {H H' : Hp} {ds : List PDef} {vs : List V} (h : DefsAt av H ds vs) (s : BSame b H H') (B : BagAt H b l) (m : b ∈ av) : DefsAt av H' ds vs :=
  h.by (fun a xs n e => s _ _ (fun z => n (z ▸ m)) e) (s.ts B)
theorem DefsAt.mono {av : List Addr} {H H' : Hp} {ds : List PDef} {vs : List V} (h : DefsAt av H ds vs) (s : Same H H') : DefsAt av H' ds vs := h.by (fun a xs _ e => s _ _ e) s.ts
theorem DefsAt.wr {av : List Addr} {H : Hp} {q : Addr} {xs : List V} {o : HO} {ds : List PDef} {vs : List V} (h : DefsAt av H ds vs) (m : q ∈ av) (e : H q = some (.lst xs)) : DefsAt av (upd H q o) ds vs :=
  h.by (fun a ys n z => by rw [upd_ne (fun w : a = q => n (w ▸ m))]; exact z) (TSame.wr fun zs z => by rw [e] at z; cases z)
theorem DefsAt.append {av : List Addr} {H : Hp} : ∀ {ds es : List PDef} {vs ws : List V}, DefsAt av H ds vs → DefsAt av H es ws → DefsAt av H (ds ++ es) (vs ++ ws)
  | [], es, vs, ws, h, r => by
    have h : vs = [] := h
    rw [h]
    exact r
  | d :: ds, es, vs, ws, h, r => by
    obtain ⟨v, q, rfl, h1, h2⟩ := h
    exact ⟨v, q ++ ws, rfl, h1, DefsAt.append h2 r⟩
theorem DefsAt.length {av : List Addr} {H : Hp} : ∀ {ds : List PDef} {vs : List V}, DefsAt av H ds vs → ds.length = vs.length
  | [], vs, h => by
    have h : vs = [] := h
    rw [h]; rfl
  | d :: ds, vs, h => by
    obtain ⟨v, q, rfl, h1, h2⟩ := h
    simp [DefsAt.length h2]
theorem DefsAt.get {av : List Addr} {H : Hp} : ∀ {ds : List PDef} {vs : List V} {i : Nat} {v : V}, DefsAt av H ds vs → vs[i]? = some v → ∃ d, ds[i]? = some d ∧ DefAt av H d v
  | [], vs, i, v, h, e => by
    have h : vs = [] := h
    rw [h] at e
    simp at e
  | d :: ds, vs, 0, v, h, e => by
    obtain ⟨u, q, rfl, h1, h2⟩ := h
    simp at e
    subst e
    exact ⟨d, rfl, h1⟩
  | d :: ds, vs, i + 1, v, h, e => by
    obtain ⟨u, q, rfl, h1, h2⟩ := h
    obtain ⟨d', e1, e2⟩ := DefsAt.get h2 (i := i) (v := v) (by simpa using e)
    exact ⟨d', by simpa using e1, e2⟩
theorem le3 {w ls : Str} (h : (w, ls) ∈ lettersL) : ls.cps.size ≤ 3 := by
  have hk : ∀ q ∈ lettersL, q.2.cps.size ≤ 3 := by decide +kernel
  exact hk _ h
theorem rd_meet {c : TT} {t u t2 : TS} {D' : Ends} {σ : St} {H : Hp} (I : St → Hp → Prop) (hI : ∀ σ' H', I σ' H' → t2 D' σ' H') (h : ∀ N : St → Hp → Prop, (∀ σ' H', I σ' H' → N σ' H') → tIfS c t u { D' with nx := N } σ H) : tSeq (tIfS c t u) t2 D' σ H :=
  h (t2 D') hI
/-- as the law makes them -/
structure ProgOk (sg : List (Int × Int)) (ds : List PDef) : Prop where
  sgs : SgOk sg
  heads : ds.map (fun d => (d.1, d.2.1)) = sg
  rows : ∀ d ∈ ds, ∃ many, 1 ≤ many ∧ many ≤ 30 ∧ RowsOk sg d.2.1 many d.2.2
end L2

end
section
set_option Elab.async false
set_option linter.all false
set_option maxRecDepth 100000
set_option maxHeartbeats 4000000
namespace L2
open PySem PySem.Spec PyProof.Rows
/-! ### methods and classes of the text -/
section
variable {X : Cx} {C : Addr} {x m : Str} {k : Nat} {ps : List Str} {sp : Sp} {o e : Expr} {es : List Expr} {ta : TE} {t : TA} {apos pos p : Pos}
theorem pe_cint {n : Int} (hg : Gl X x) (h : ∃ t, X.mg x = some (.int n t)) (hd : (x == ("__debug__" : Str)) = false := by decide) : PE X (.Name x pos) (tC (.int n)) := by
  obtain ⟨t, h⟩ := h
  exact pe_glob hg h ⟨t, rfl⟩ hd
end
section
variable {P : Program} {w : World} {K : PySem.W.Frag} {mg : Str → Option Value} {base : Heap} {x m qual : Str} {st : Stmt} {ps N : List Str} {sp : Sp} {k : Nat} {C : Addr}
end
/-! ### readings -/
section
variable {σ : St} {H : Hp} {Q : VK} {K : PySem.W.Frag} {ta tv : TE} {f m : Str} {C a dx : Addr} {fs : List (Str × V)} {v : V}
end
end L2

end
section
set_option Elab.async false
set_option linter.all false
set_option maxRecDepth 100000
set_option maxHeartbeats 4000000
namespace L2
open PySem PySem.Spec PyProof.Rows
/-! ### a dict of the text's own: words, and for each a tuple of texts -/
noncomputable def CTup (K : PySem.W.Frag) (a : Addr) (xs : List V) : Prop := ∃ (o : Obj) (its : Array Value) (n : Nat), K.lookup a = some o ∧ o.cls = .type "tuple" ∧ o.data = .seq its n ∧ its.size ≤ sizeLine ∧ Vals xs its.toList
theorem CTup.sq {K : PySem.W.Frag} {a : Addr} {xs : List V} (h : CTup K a xs) (H : Hp) : SqT K H a xs := .inr h
noncomputable def entC (w : World) (q : Str × Tok × Addr) : DictEntry := ⟨hashStr w q.1, .str q.1 q.2.1, .ref q.2.2⟩
noncomputable def CDat (K : PySem.W.Frag) (w : World) (a : Addr) (tb : List (Str × List Str)) : Prop :=
  (a == sysModules) = false ∧ (tb.map (·.1)).Nodup ∧ ∃ (rows : List (Str × Tok × Addr)) (ep : Nat), K.lookup a = some { cls := .type "dict", data := .dict (rows.map (entC w)).toArray ep } ∧
    Paired (fun (p : Str × List Str) (q : Str × Tok × Addr) => p.1 = q.1 ∧ CTup K q.2.2 (p.2.map V.str)) tb rows
theorem cd_find {K : PySem.W.Frag} {tb : List (Str × List Str)} {rows : List (Str × Tok × Addr)} (h : Paired (fun (p : Str × List Str) (q : Str × Tok × Addr) => p.1 = q.1 ∧ CTup K q.2.2 (p.2.map V.str)) tb rows) (x : Str) :
    (tb.lookup x = none ∧ valueAt (rows.map fun q => ((Sum.inr q.1 : Key), Value.ref q.2.2)) (Sum.inr x) = none) ∨ ∃ ks a, tb.lookup x = some ks ∧ CTup K a (ks.map V.str) ∧ valueAt (rows.map fun q => ((Sum.inr q.1 : Key), Value.ref q.2.2)) (Sum.inr x) = some (.ref a) := by
  induction h with
  | nil => exact .inl ⟨rfl, rfl⟩
  | @cons p q ps qs hq t ih =>
    obtain ⟨p1, p2⟩ := p
    obtain ⟨q1, qt, qa⟩ := q
    obtain ⟨e, c⟩ := hq
    dsimp only at e c
    subst e
    by_cases z : x = p1
    · subst z
      refine .inr ⟨p2, qa, by simp [List.lookup], c, ?_⟩
      simp [valueAt]
    · have z1 : (x == p1) = false := by simpa using z
      have z2 : ¬ p1 = x := fun w => z w.symm
      have e1 : List.lookup x ((p1, p2) :: ps) = List.lookup x ps := by simp [List.lookup, z1]
      have e2 : valueAt (((p1, qt, qa) :: qs).map fun q => ((Sum.inr q.1 : Key), Value.ref q.2.2)) (Sum.inr x) = valueAt (qs.map fun q => ((Sum.inr q.1 : Key), Value.ref q.2.2)) (Sum.inr x) := by
        simp [valueAt, z2]
      rw [e1, e2]
      exact ih
theorem cd_pairs {P : Program} {w : World} : ∀ (rows : List (Str × Tok × Addr)), Pairs (mixKind P w) (rows.map (entC w)) (rows.map fun q => ((Sum.inr q.1 : Key), Value.ref q.2.2))
  | [] => .nil
  | q :: rows => by
    rw [List.map_cons, List.map_cons]
    exact .cons (mixKind_str P w q.1 q.2.1) rfl (cd_pairs rows)
theorem CDat.dict {P : Program} {w : World} {K : PySem.W.Frag} {h : Heap} {a : Addr} {tb : List (Str × List Str)} (c : CDat K w a tb) (hk : K.In h) : ∃ vs, h.DictOf (mixKind P w) a vs ∧
    ∀ x, (tb.lookup x = none ∧ valueAt vs (Sum.inr x) = none) ∨ ∃ ks b, tb.lookup x = some ks ∧ CTup K b (ks.map V.str) ∧ valueAt vs (Sum.inr x) = some (.ref b) := by
  obtain ⟨hs, nd, rows, ep, hl, pr⟩ := c
  refine ⟨rows.map fun q => ((Sum.inr q.1 : Key), Value.ref q.2.2), ⟨_, _, ep, hk a _ hl, ⟨rfl, rfl, rfl⟩, rfl, ?_, by simpa using cd_pairs rows, ?_⟩, cd_find pr⟩
  · intro e he
    have he : e ∈ rows.map (entC w) := by simpa using he
    obtain ⟨q, hq, rfl⟩ := List.mem_map.mp he
    exact ⟨.inr q.1, mixKind_str P w q.1 q.2.1, rfl⟩
  · have e : rows.map (·.1) = tb.map (·.1) := by
      clear hl nd
      induction pr with
      | nil => rfl
      | cons hq t ih => rw [List.map_cons, List.map_cons, ih, hq.1]
    rw [List.map_map]
    have : (rows.map (·.1)).Nodup := e ▸ nd
    have e2 : rows.map ((fun x : Key × Value => x.1) ∘ fun q : Str × Tok × Addr => ((Sum.inr q.1 : Key), Value.ref q.2.2)) = (rows.map (·.1)).map Sum.inr := by rw [List.map_map]; rfl
    rw [e2]
    exact List.Pairwise.map _ (fun a b z z' => z (Sum.inr.inj z')) this
noncomputable def IsCD (K : PySem.W.Frag) (w : World) (mg : Str → Option Value) (x : Str) (tb : List (Str × List Str)) : Prop := ∃ a, mg x = some (.ref a) ∧ CDat K w a tb
noncomputable def tCD (K : PySem.W.Frag) (w : World) (tb : List (Str × List Str)) : TE := fun _ H Q => ∀ a, CDat K w a tb → Q (.ref a) H
noncomputable def rNotCD (K : PySem.W.Frag) (w : World) (tb : List (Str × List Str)) : R2 := fun x y H Q => ∃ a k, x = .str k ∧ y = .ref a ∧ CDat K w a tb ∧ Q (.bl (!(tb.lookup k).isSome)) H
noncomputable def tCDGet (K : PySem.W.Frag) (w : World) (tb : List (Str × List Str)) (td ty : TE) : TE := fun σ H Q => td σ H fun x H1 => ty σ H1 fun y H2 => ∃ a k ks, x = .ref a ∧ CDat K w a tb ∧ y = .str k ∧ tb.lookup k = some ks ∧ ∀ b, (∀ H', SqT K H' b (ks.map V.str)) → Q (.ref b) H2
section
variable {X : Cx} {o i e value : Expr} {pos pos' tpos : Pos} {td ty tv : TE} {x : Str} {K : PySem.W.Frag} {w : World} {tb : List (Str × List Str)}
theorem pe_cd (hg : Gl X x) (h : IsCD K w X.mg x tb) (hd : (x == ("__debug__" : Str)) = false := by decide) : PE X (.Name x pos) (tCD K w tb) := by
  obtain ⟨a, h, r⟩ := h
  intro pins s σ H Q I q
  exact pe_glob (v := .ref a) hg h rfl hd pins s σ H Q I (q a r)
theorem op_notCD (hK : X.K = K) (hw : X.w = w) : OpR X (compareOp .NotIn) (rNotCD K w tb) := by
  subst hK; subst hw
  intro pins s σ H x y v u Q I rx ry h
  obtain ⟨a, k, rfl, rfl, c, q⟩ := h
  obtain rfl : u = Value.ref a := ry
  obtain ⟨vs, dd, hf⟩ := c.dict (P := X.prog) I.kIn
  refine wpAny_notIn_of (kV_is (k := Sum.inr k) rx) c.1 dd.mapOf ?_
  refine ⟨.bl (!(tb.lookup k).isSome), H, I.tok _, ?_, q⟩
  rcases hf k with ⟨e1, e2⟩ | ⟨ks, b, e1, _, e2⟩
  · rw [e1, e2]; rfl
  · rw [e1, e2]; rfl
theorem pe_cdget (hK : X.K = K) (hw : X.w = w) (ho : PE X o td) (hi : PE X i ty) (hs : NoSl i) : PE X (.Subscript o i pos) (tCDGet K w tb td ty) := by
  subst hK; subst hw
  intro pins s σ H Q I h
  refine subD_of PySem.F.slot_dict_getitem.lookup hs (thn (ho pins s σ H _ I h) fun u s1 ⟨x, H1, I1, rx, q1⟩ => thn (hi pins s1 σ H1 _ I1 q1) fun iv s2 ⟨y, H2, I2, ry, a, k, ks, ex, c, ey, l, q2⟩ => ?_)
  subst ex; subst ey
  obtain rfl : u = Value.ref a := rx
  obtain ⟨vs, dd, hf⟩ := c.dict (P := X.prog) I2.kIn
  refine ⟨dd.typeIs, ?_⟩
  rcases hf k with ⟨e1, e2⟩ | ⟨ks', b, e1, ct, e2⟩
  · rw [l] at e1; cases e1
  · rw [l] at e1; cases e1
    exact wpAny_getItem_of (kV_is (k := Sum.inr k) ry) dd.mapOf e2 ⟨.ref b, H2, I2.tok _, rfl, q2 b fun H' => ct.sq H'⟩
end
theorem rd_cd {K : PySem.W.Frag} {w : World} {tb : List (Str × List Str)} {σ : St} {H : Hp} {Q : VK} (h : ∀ a, CDat K w a tb → Q (.ref a) H) : tCD K w tb σ H Q := h
theorem rd_notCD {K : PySem.W.Frag} {w : World} {tb : List (Str × List Str)} {a : Addr} {k : Str} {H : Hp} {Q : VK} (c : CDat K w a tb) (h : Q (.bl (!(tb.lookup k).isSome)) H) : rNotCD K w tb (.str k) (.ref a) H Q := ⟨a, k, rfl, rfl, c, h⟩
noncomputable def cdK (K : PySem.W.Frag) (w : World) (tb : List (Str × List Str)) (Q : VK) (x y : V) (H2 : Hp) : Prop := ∃ a k ks, x = .ref a ∧ CDat K w a tb ∧ y = .str k ∧ tb.lookup k = some ks ∧ ∀ b, (∀ H', SqT K H' b (ks.map V.str)) → Q (.ref b) H2
theorem rd_cdget {K : PySem.W.Frag} {w : World} {tb : List (Str × List Str)} {td ty : TE} {σ : St} {H : Hp} {Q : VK} (h : td σ H fun x H1 => ty σ H1 fun y H2 => cdK K w tb Q x y H2) : tCDGet K w tb td ty σ H Q := h
theorem cdK_of {K : PySem.W.Frag} {w : World} {tb : List (Str × List Str)} {a : Addr} {k : Str} {ks : List Str} {H : Hp} {Q : VK} (c : CDat K w a tb) (l : tb.lookup k = some ks) (h : ∀ b, (∀ H', SqT K H' b (ks.map V.str)) → Q (.ref b) H) : cdK K w tb Q (.ref a) (.str k) H := ⟨a, k, ks, rfl, c, rfl, l, h⟩
noncomputable def disp3K (p : Addr) (Q : VK) (ps : List (V × V)) (H2 : Hp) : Prop := H2 p = some (.dK []) ∧ ∃ kvs : List (Key × V), ps = kvs.map (fun kv => (kV kv.1, kv.2)) ∧ kvs.length ≤ 15 ∧ Q (.ref p) (upd H2 p (.dK (mergeK [] kvs)))
theorem rd_dispG {trs : List (TE × TE)} {σ : St} {H : Hp} {Q : VK} (h : ∀ p, H p = none → tPairs trs σ (upd H p (.dK [])) (disp3K p Q)) : tDisp trs σ H Q := h
theorem rd_pcons {tk tv : TE} {r : List (TE × TE)} {σ : St} {H : Hp} {Q : List (V × V) → Hp → Prop} (h : tk σ H fun x H1 => tv σ H1 fun y H2 => tPairs r σ H2 fun ps H3 => Q ((x, y) :: ps) H3) : tPairs ((tk, tv) :: r) σ H Q := h
theorem rd_pnil {σ : St} {H : Hp} {Q : List (V × V) → Hp → Prop} (h : Q [] H) : tPairs [] σ H Q := h
theorem disp_of {p : Addr} {Q : VK} {H2 : Hp} {ps : List (V × V)} (kvs : List (Key × V)) (e : ps = kvs.map fun kv => (kV kv.1, kv.2)) (h : H2 p = some (.dK [])) (n : (kvs.map (·.1)).Nodup) (h15 : kvs.length ≤ 15) (q : Q (.ref p) (upd H2 p (.dK kvs))) : disp3K p Q ps H2 :=
  ⟨h, kvs, e, h15, by rw [merge_new _ _ (by simpa using n)]; exact q⟩
theorem rd_dget1 {td ty : TE} {σ : St} {H : Hp} {Q : VK} (h : td σ H fun x H1 => ∃ a, x = .ref a ∧ IsD H1 a ∧ ty σ H1 fun y H2 => ∃ o, DGet H2 a y o ∧ Q (o.getD .non) H2) : tDGet1 td ty σ H Q := h
/-- PARTS of rows.py -/
noncomputable def partsT : List (Str × List Str) := [("put", ["box", "number"]), ("copy", ["box", "box"]), ("plus", ["box", "box", "box"]), ("less", ["box", "box", "box"]), ("times", ["box", "box", "factor"]), ("take", ["box"]), ("tell", ["box"]), ("jump", ["row"]), ("zero", ["box", "row"]), ("below", ["box", "row"]), ("call", ["box", "def", "boxes"]), ("back", ["box"])]
end L2

end
section
set_option Elab.async false
set_option linter.all false
set_option maxRecDepth 100000
set_option maxHeartbeats 4000000
namespace L2
open PySem PySem.Spec PyProof.Rows
section
variable {X : Cx}
noncomputable def rSlS : V → Option Int → Option Int → Hp → VK → Prop := fun x lo hi H Q => ∃ z, x = .str z ∧ z.length ≤ sizeLine ∧ Q (.str (Txt.slice z lo hi)) H
theorem part_of {v : Value} {o : Option Int} (h : IsPart v o) : ∃ l : Option (Int × Tok), v = partValue l ∧ l.map (·.1) = o := by
  cases h with
  | none => exact ⟨none, rfl, rfl⟩
  | int i t => exact ⟨some (i, t), rfl, rfl⟩
theorem sl_str : SlR X rSlS := by
  intro pins s σ H x v vl vu lo hi sl Q I rx hs pl pu h
  obtain ⟨z, rfl, hz, q⟩ := h
  obtain ⟨t, rfl⟩ := rx
  obtain ⟨l, rfl, rfl⟩ := part_of pl
  obtain ⟨u, rfl, rfl⟩ := part_of pu
  refine ⟨"str", _, PySem.F.slot_str_getitem.lookup, typeIs_str s z t, ?_⟩
  refine wpAny_getItem_str_slice (l := l) (u := u) (st := none) hs (by decide) ?_
  have fin : ∀ t' tk, EP X pins σ Q (.str (Txt.slice z (l.map (·.1)) (u.map (·.1))) t') { s with toks := tk } := fun t' tk => ⟨.str _, H, I.tok _, ⟨_, rfl⟩, q⟩
  exact post_val_or_str ⟨Nat.le_trans (Txt.slice_le z _ _) hz, fun t' k => fin t' k⟩
/-- a text so many times -/
noncomputable def repS (z : Str) (n : Int) : Str := if n < 1 then Str.empty else if (n == 1 || z.length == 0) = true then z else ⟨(List.replicate n.toNat z.cps).foldl (· ++ ·) #[]⟩
noncomputable def rRepS : R2 := fun x y H Q => ∃ z n, x = .str z ∧ y = .int n ∧ -1000 ≤ n ∧ n ≤ 1000 ∧ z.length ≤ 1000 ∧ (repS z n).length ≤ sizeLine ∧ Q (.str (repS z n)) H
theorem op_repS : OpR X (binaryOp .Mult) rRepS := by
  intro pins s σ H x y v u Q I rx ry h
  obtain ⟨z, n, rfl, rfl, h1, h2, h3, h4, q⟩ := h
  obtain ⟨t, rfl⟩ := rx
  obtain ⟨t', rfl⟩ := ry
  have hp : ¬ n < 1 → z.length * n.toNat ≤ 1000000 := fun _ => by
    have := Nat.mul_le_mul h3 (show n.toNat ≤ 1000 by omega)
    omega
  refine PySem.P.mul_str (by rw [decide_eq_false (by omega), decide_eq_false (by omega)]; rfl) (fun a _ b => ?_) (fun a _ => ?_) ?_
  · have h5 : ((z.length : Int)) ≤ (2 ^ 63 - 1) / n := by
      rw [Int.le_ediv_iff_mul_le (by omega)]
      have h6 := hp a
      have h7 : (z.length : Int) * n = ((z.length * n.toNat : Nat) : Int) := by rw [Int.natCast_mul, Int.toNat_of_nonneg (by omega)]
      rw [h7]
      omega
    omega
  · have h6 := hp a
    first
      | exact decide_eq_false (by omega)
      | (unfold Builtin.Str.tooLong; rw [decide_eq_false]; rw [sizeLine_eq]; omega)
      | (simp [Builtin.Str.tooLong]; omega)
  · unfold repS at h4 q
    by_cases a : n < 1
    · rw [if_pos a] at h4 q ⊢
      exact ⟨h4, .str _, H, I.tok _, ⟨_, rfl⟩, q⟩
    · rw [if_neg a] at h4 q ⊢
      by_cases b : (n == 1 || z.length == 0) = true
      · rw [if_pos b] at h4 q ⊢
        exact ⟨.str _, H, I, ⟨_, rfl⟩, q⟩
      · rw [if_neg b] at h4 q ⊢
        exact ⟨h4, .str _, H, I.tok _, ⟨_, rfl⟩, q⟩
theorem strs_of : ∀ {us : List Value} {zs : List Str}, Vals (zs.map V.str) us → StrsAre us zs
  | [], [], _ => .nil
  | [], z :: zs, h => by cases h
  | u :: us, [], h => by cases h
  | u :: us, z :: zs, h => by
    cases h with
    | cons r1 r2 =>
      obtain ⟨t, rfl⟩ := r1
      exact .cons z t (strs_of r2)
noncomputable def rJoin (K : PySem.W.Frag) : V → List V → Hp → VK → Prop := fun x vs H Q => ∃ z a zs, x = .str z ∧ vs = [.ref a] ∧ SqL K H a ((zs : List Str).map V.str) ∧ z.length ≤ 16 ∧ (zs.map (·.length)).sum + zs.length ≤ 1048576 ∧ Q (.str (Txt.join z zs)) H
theorem mt_join : MtR X "str.join" (rJoin X.K) := by
  intro pins s σ H x vs v us Q I rx rv h
  obtain ⟨z, a, zs, rfl, rfl, ha, hl, hw, q⟩ := h
  obtain ⟨t, rfl⟩ := rx
  obtain ⟨u, rfl, ru⟩ := rv.one
  cases ru
  obtain ⟨its, vx, ht, _⟩ := I.list ha
  exact join_listW ht.isList (by simpa using strs_of vx) hl hw fun t' k => ⟨.str _, H, I.tok _, ⟨_, rfl⟩, q⟩
end
end L2

end
section
set_option Elab.async false
set_option linter.all false
set_option maxRecDepth 100000
set_option maxHeartbeats 4000000
namespace L2
open PySem PySem.Spec PyProof.Rows
section
variable {X : Cx}
/-! ### all of a list of truths -/
noncomputable def rAll (K : PySem.W.Frag) : List V → Hp → VK → Prop := fun xs H Q => ∃ (a : Addr) (bs : List Bool), xs = [.ref a] ∧ SqL K H a (bs.map V.bl) ∧ Q (.bl (bs.all id)) H
theorem all_range (bs : List Bool) : (List.range bs.length).all (fun i => bs.getD i false) = bs.all id := by
  rw [Bool.eq_iff_iff, List.all_eq_true, List.all_eq_true]
  constructor
  · intro h b hb
    obtain ⟨j, hj, rfl⟩ := List.getElem_of_mem hb
    have := h j (List.mem_range.mpr hj)
    simpa [hj] using this
  · intro h j hj
    have hj := List.mem_range.mp hj
    have := h bs[j] (List.getElem_mem hj)
    simpa [hj] using this
theorem call_allB (hc : X.calm = true) : CallR X (.builtin "all") (rAll X.K) := by
  intro pins s σ H xs us Q I r h
  obtain ⟨a, bs, rfl, ha, q⟩ := h
  obtain ⟨u, rfl, ru⟩ := vals1 r
  cases ru
  obtain ⟨its, vx, ht, _⟩ := I.list ha
  have hlen := vx.length
  rw [List.length_map] at hlen
  have hlt : a < s.heap.objs.size := by obtain ⟨_, e, _⟩ := ht.isList; exact Heap.lt_size e
  refine call_all_walk (wpAny_pyIter_list ht.isList ?_)
  refine ⟨_, _, _, _, _, _, fun i => bs.getD i false, rfl, Walks.list (A := X.A.in1) (I.ok.hd hc) _ a (Nat.ne_of_lt hlt) its.toArray, ⟨⟨_, Heap.get?_push_size _ rfl, rfl, rfl⟩, ht.isList.push _⟩, ?_, fun h' tk hk => ?_⟩
  · intro i v s' Q' E' hv hq
    have hv' : its[i]? = some v := by simpa using hv
    have hi := (List.getElem?_eq_some_iff.mp hv').1
    have hib : i < bs.length := by omega
    obtain ⟨u', eu, ru⟩ := vx.get (i := i) (x := .bl bs[i]) (by rw [List.getElem?_map, List.getElem?_eq_getElem hib]; rfl)
    rw [hv'] at eu
    cases eu
    cases ru
    have e : bs.getD i false = bs[i] := by simp [hib]
    have hq : Q' (bs.getD i false) s' := hq
    rw [e] at hq
    exact wpAny_truthy_bool hq
  · have hsz : its.toArray.size = bs.length := by simp; omega
    rw [hsz, all_range]
    refine ⟨.bl _, H, I.kept fun b o e => ?_, rfl, q⟩
    refine hk b o (fun hm => ?_) (Heap.get?_push_of_some _ e)
    have : b = s.heap.objs.size := by simpa using hm
    rw [this] at e
    exact absurd (Heap.lt_size e) (Nat.lt_irrefl _)
theorem k_all {K : PySem.W.Frag} (h : X.K = K) (hc : X.calm = true) : CallR X (.builtin "all") (rAll K) := h ▸ call_allB hc
end
end L2

end
section
set_option Elab.async false
set_option linter.all false
set_option maxRecDepth 100000
set_option maxHeartbeats 4000000
namespace L2
open PySem
/-! ### rows, programs and runs, as data -/
inductive Rw where
  | put (p n : Int) | copy (p q : Int) | plus (p q r : Int) | less (p q r : Int) | times (p q n : Int) | take (p : Int) | tell (p : Int) | jump (t : Int) | zero (p t : Int) | below (p t : Int) | call (p f : Int) (qs : List Int) | back (p : Int)
noncomputable def Rw.row : Rw → Str × List D
  | .put p n => ("put", [.int p, .int n])
  | .copy p q => ("copy", [.int p, .int q])
  | .plus p q r => ("plus", [.int p, .int q, .int r])
  | .less p q r => ("less", [.int p, .int q, .int r])
  | .times p q n => ("times", [.int p, .int q, .int n])
  | .take p => ("take", [.int p])
  | .tell p => ("tell", [.int p])
  | .jump t => ("jump", [.int t])
  | .zero p t => ("zero", [.int p, .int t])
  | .below p t => ("below", [.int p, .int t])
  | .call p f qs => ("call", [.int p, .int f, .tup (qs.map D.int)])
  | .back p => ("back", [.int p])
structure Df where
  takes : Int
  boxes : Int
  rows : List Rw
inductive En where
  | back (n : Int) | dry (f at' : Int) | deep (f at' : Int)
noncomputable def En.d : Option En → D
  | none => .non
  | some (.back n) => .tup [.str "back", .int n]
  | some (.dry f a) => .tup [.str "dry", .int f, .int a]
  | some (.deep f a) => .tup [.str "deep", .int f, .int a]
noncomputable abbrev Fr := Int × Int × List Int
structure HS where
  frames : List Fr
  left : List Int
  news : List Int
  gone : Int
  fin : Option En
/-! ### where they stand in the heap -/
noncomputable def rowsD (rs : List Rw) : List D := rs.map fun r => rowD r.row
noncomputable def DfAt (own : List Addr) (H : Hp) (d : Df) (v : V) : Prop := ∃ t q ys, v = .ref t ∧ H t = some (.tup [.int d.takes, .int d.boxes, .ref q]) ∧ H q = some (.lst ys) ∧ q ∉ own ∧ Reps H (rowsD d.rows) ys
noncomputable def PgAt (own : List Addr) (H : Hp) (P : List Df) (pp : Addr) : Prop := ∃ vs, H pp = some (.lst vs) ∧ pp ∉ own ∧ vs.length = P.length ∧ ∀ (i : Nat) (d : Df) (v : V), P[i]? = some d → vs[i]? = some v → DfAt own H d v
end L2

end
section
set_option Elab.async false
set_option linter.all false
set_option maxRecDepth 100000
set_option maxHeartbeats 4000000
namespace L2
open PySem
/-! ### the fields of a hand -/
noncomputable def hflds (a b c d e f : V) : List (Str × V) := [("program", a), ("frames", b), ("news", c), ("gone", d), ("left", e), ("end", f)]
section
variable {a b c d e f v : V}
end
/-! ### the objects of a hand -/
noncomputable def AllAt (H : Hp) (l : List (Addr × HO)) : Prop := ∀ e ∈ l, H e.1 = some e.2
noncomputable abbrev FZ := (Addr × Addr) × Fr
noncomputable def frObj (z : FZ) : List (Addr × HO) := [(z.1.1, .lst [.int z.2.1, .int z.2.2.1, .ref z.1.2]), (z.1.2, .lst (z.2.2.2.map V.int))]
noncomputable def hObjs (C p dx pp pf pn pl : Addr) (fz : List FZ) (h : HS) (ve : V) : List (Addr × HO) :=
  [(p, .ins C dx (hflds (.ref pp) (.ref pf) (.ref pn) (.int h.gone) (.ref pl) ve)), (pf, .lst (fz.map fun z => V.ref z.1.1)), (pn, .lst (h.news.map V.int)), (pl, .lst (h.left.map V.int))] ++ fz.flatMap frObj
noncomputable def ownA (p pf pn pl : Addr) (fz : List FZ) : List Addr := [p, pf, pn, pl] ++ fz.flatMap fun z => [z.1.1, z.1.2]
structure HA (C p dx pp pf pn pl : Addr) (fz : List FZ) (H : Hp) (P : List Df) (h : HS) (ve : V) : Prop where
  all : AllAt H (hObjs C p dx pp pf pn pl fz h ve)
  nd : (ownA p pf pn pl fz).Nodup
  en : Rep H (En.d h.fin) ve
  pg : PgAt (ownA p pf pn pl fz) H P pp
  fr : fz.map (·.2) = h.frames
section
variable {C p dx pp pf pn pl : Addr} {fz : List FZ} {H : Hp} {P : List Df} {h : HS} {ve : V}
end
end L2

end
section
set_option Elab.async false
set_option linter.all false
set_option maxRecDepth 100000
set_option maxHeartbeats 4000000
namespace L2
open PySem
theorem atI_neg1 {α : Type} {l : List α} {x : α} : atI (l ++ [x]) (-1) = some x := by
  unfold atI ixN
  rw [if_neg (by omega), if_pos (by simp; omega)]
  simp
  rw [show (-1 + ((l.length : Int) + 1)).toNat = l.length by omega]
  simp
section
variable {C p dx pp pf pn pl : Addr} {fz : List FZ} {z : FZ} {H : Hp} {P : List Df} {h : HS} {ve : V}
end
end L2

end
section
set_option Elab.async false
set_option linter.all false
set_option maxRecDepth 100000
set_option maxHeartbeats 4000000
namespace L2
open PySem PySem.Spec PyProof.Rows
/-! ### for over zip of two lists -/
section
variable {X : Cx} {pins : List (Addr × Obj)} {σ : St} {H : Hp} {s : Shared} {h' : Heap}
end
section
variable {X : Cx} {tg : Expr}
end
end L2

end
section
set_option Elab.async false
set_option linter.all false
set_option maxRecDepth 100000
set_option maxHeartbeats 4000000
namespace L2
open PySem PySem.Spec PyProof.Rows
/-! ### == and != of two programs that are alike -/
section
variable {X : Cx} {pins : List (Addr × Obj)} {σ : St} {H : Hp} {s : Shared}
end
section
variable {X : Cx}
end
/-! ### two programs -/
end L2

end
section
set_option Elab.async false
set_option linter.all false
set_option maxRecDepth 100000
set_option maxHeartbeats 4000000
namespace L2
open PySem
/-! ### a hand that goes stays one -/
section
variable {P : List Df} {h : HS}
end
end L2

end
section
set_option Elab.async false
set_option linter.all false
set_option maxRecDepth 100000
set_option maxHeartbeats 4000000
namespace L2
open PySem
/-! ### what is kept: the objects at kp, and all tuples -/
section
variable {kp own : List Addr} {H0 H H' : Hp}
/-- an owner stays apart from what is there -/
theorem apart {own own' oth : List Addr} (new : ∀ x ∈ own', x ∈ own ∨ H x = none) (d : ∀ x ∈ oth, x ∉ own) (al : ∀ x ∈ oth, H x ≠ none) : ∀ x ∈ oth, x ∉ own' := fun x hx m => by
  rcases new x m with h | h
  · exact d x hx h
  · exact al x hx h
end
section
variable {kp own : List Addr} {H0 H H' : Hp} {P : List Df} {pp : Addr}
end
end L2

end
section
set_option Elab.async false
set_option linter.all false
set_option maxRecDepth 100000
set_option maxHeartbeats 4000000
namespace L2
open PySem PySem.Spec PyProof.Rows
/-! ### two values that are alike, lists and tuples in one another: == tells True, != False -/
/-- both lists, or both tuples, of these items -/
noncomputable def Seqs (H : Hp) (x y : V) (xs ys : List V) : Prop := ∃ a b, x = .ref a ∧ y = .ref b ∧ ((H a = some (.tup xs) ∧ H b = some (.tup ys)) ∨ (H a = some (.lst xs) ∧ H b = some (.lst ys)))
noncomputable def simV : V → Prop
  | .byt _ => False
  | .flt _ => False
  | .ty _ => False
  | _ => True
noncomputable def Alike (H : Hp) : Nat → V → V → Prop
  | 0, x, y => x = y ∧ simV x
  | n + 1, x, y => (x = y ∧ simV x) ∨ ∃ xs ys, Seqs H x y xs ys ∧ xs.length = ys.length ∧ ∀ (j : Nat) (u v : V), xs[j]? = some u → ys[j]? = some v → Alike H n u v
theorem Alike.up {H : Hp} : ∀ {n : Nat} {x y : V}, Alike H n x y → Alike H (n + 1) x y
  | 0, x, y, h => .inl h
  | n + 1, x, y, h => by
    rcases h with h | ⟨xs, ys, s, l, k⟩
    · exact .inl h
    · exact .inr ⟨xs, ys, s, l, fun j u v e1 e2 => (k j u v e1 e2).up⟩
theorem Alike.le {H : Hp} {n m : Nat} {x y : V} (h : Alike H n x y) (l : n ≤ m) : Alike H m x y := by
  induction m with
  | zero => obtain rfl : n = 0 := by omega
            exact h
  | succ m ih =>
    by_cases e : n = m + 1
    · subst e; exact h
    · exact (ih (by omega)).up
theorem Alike.refl {H : Hp} (n : Nat) {x : V} (f : simV x) : Alike H n x x := Alike.le (n := 0) ⟨rfl, f⟩ (Nat.zero_le _)
section
variable {X : Cx} {pins : List (Addr × Obj)} {σ : St} {H : Hp} {s : Shared}
theorem seqs_get {xs : List V} {its : List Value} (vx : Vals xs its) {j : Nat} (h : j < its.toArray.size) : ∃ x, xs[j]? = some x ∧ RelV x its.toArray[j] := by
  have l1 := vx.length
  have h' : j < its.length := by simpa using h
  have e1 : xs[j]? = some (xs[j]'(by omega)) := List.getElem?_eq_getElem _
  obtain ⟨u1, z1, w1⟩ := vx.get e1
  have y1 : its.toArray[j] = u1 := by
    have : its[j]? = some its[j] := List.getElem?_eq_getElem h'
    rw [z1] at this
    simpa using (Option.some.inj this).symm
  exact ⟨_, e1, by rw [y1]; exact w1⟩
theorem rcAt_seqs (I : Inv X pins σ H s) {A : Around} {a b : Addr} {xs ys : List V} (h : (H a = some (.tup xs) ∧ H b = some (.tup ys)) ∨ (H a = some (.lst xs) ∧ H b = some (.lst ys))) (hl : xs.length = ys.length) (hu : A.units < cLine)
    (k : ∀ (j : Nat) (u v : V) (u' v' : Value), xs[j]? = some u → ys[j]? = some v → RelV u u' → RelV v v' → SeqAt.EqAt A.in1 s u' v' true) : SeqAt.RcAt A s (.ref a) (.ref b) true := by
  rcases h with ⟨ha, hb⟩ | ⟨ha, hb⟩
  · obtain ⟨its, vx, ht⟩ := I.isTup ha
    obtain ⟨its', vy, ht'⟩ := I.isTup hb
    have l1 := vx.length
    have l2 := vy.length
    have key := SeqAt.RcAt.tuples (A := A) (e := fun _ => true) ht ht' hu fun j j1 j2 => by
      obtain ⟨x, e1, r1⟩ := seqs_get vx j1
      obtain ⟨y, e2, r2⟩ := seqs_get vy j2
      exact k j x y _ _ e1 e2 r1 r2
    have e : ((List.range (min its.toArray.size its'.toArray.size)).all (fun _ => true) && its.toArray.size == its'.toArray.size) = true := by
      simp; omega
    rw [e] at key
    exact key
  · obtain ⟨its, vx, ht, _⟩ := I.list (SqL.of ha)
    obtain ⟨its', vy, ht', _⟩ := I.list (SqL.of hb)
    have l1 := vx.length
    have l2 := vy.length
    have key := SeqAt.RcAt.lists (A := A) (e := fun _ => true) ht.isList ht'.isList (by simp; omega) hu fun j j1 j2 => by
      obtain ⟨x, e1, r1⟩ := seqs_get vx j1
      obtain ⟨y, e2, r2⟩ := seqs_get vy j2
      exact k j x y _ _ e1 e2 r1 r2
    have e : (List.range its.toArray.size).all (fun _ => true) = true := by simp
    rw [e] at key
    exact key
theorem eqAt_alike (I : Inv X pins σ H s) : ∀ (n : Nat) {x y : V} {u v : Value} {A : Around}, Alike H n x y → RelV x u → RelV y v → A.units + n < cLine → SeqAt.EqAt A s u v true := by
  have flat : ∀ {x : V} {u v : Value} {A : Around}, simV x → RelV x u → RelV x v → SeqAt.EqAt A s u v true := by
    intro x u v A f ru rv
    cases x with
    | non => cases ru; cases rv; exact SeqAt.EqAt.same _
    | bl b => cases ru; cases rv; exact SeqAt.EqAt.same _
    | int i =>
      obtain ⟨t, rfl⟩ := ru; obtain ⟨t', rfl⟩ := rv
      have := SeqAt.EqAt.int_int (A := A) (s := s) i t i t'
      simpa using this
    | str i =>
      obtain ⟨t, rfl⟩ := ru; obtain ⟨t', rfl⟩ := rv
      have := SeqAt.EqAt.str_str (A := A) (s := s) i t i t'
      simpa using this
    | ref a => cases ru; cases rv; exact SeqAt.EqAt.same _
    | _ => cases f
  intro n
  induction n with
  | zero =>
    rintro x y u v A ⟨rfl, f⟩ ru rv hu
    exact flat f ru rv
  | succ n ih =>
    rintro x y u v A h ru rv hu
    rcases h with ⟨rfl, f⟩ | ⟨xs, ys, ⟨a, b, rfl, rfl, h⟩, hl, k⟩
    · exact flat f ru rv
    · cases ru; cases rv
      by_cases hab : a = b
      · subst hab; exact SeqAt.EqAt.same _
      · exact SeqAt.EqAt.of_refs hab (rcAt_seqs I h hl (by omega) fun j u v u' v' e1 e2 r1 r2 => ih (k j u v e1 e2) r1 r2 (by show A.units + 1 + n < cLine; omega))
noncomputable def rEqA : R2 := fun x y H Q => ∃ xs ys, Seqs H x y xs ys ∧ xs.length = ys.length ∧ (∀ (j : Nat) (u v : V), xs[j]? = some u → ys[j]? = some v → Alike H 40 u v) ∧ Q (.bl true) H
theorem op_eqA (hu : X.A.units + 64 < cLine) : OpR X (compareOp .Eq) rEqA := by
  rintro pins s σ H x y v u Q I rx ry ⟨xs, ys, ⟨a, b, rfl, rfl, h⟩, hl, k, q⟩
  cases rx; cases ry
  have key := rcAt_seqs (A := X.A) I h hl (by omega) fun j u v u' v' e1 e2 r1 r2 => eqAt_alike I 40 (k j u v e1 e2) r1 r2 (by show X.A.units + 1 + 40 < cLine; omega)
  exact key _ _ _ _ (fin_bl I q rfl)
end
/-! ### what is alike -/
section
variable {H : Hp}
/-- two lists, or two tuples, that are alike -/
noncomputable def AlikeS (H : Hp) (n : Nat) (x y : V) : Prop := ∃ xs ys, Seqs H x y xs ys ∧ xs.length = ys.length ∧ ∀ (j : Nat) (u v : V), xs[j]? = some u → ys[j]? = some v → Alike H n u v
theorem alike_lst {n : Nat} {a b : Addr} {xs ys : List V} (ha : H a = some (.lst xs)) (hb : H b = some (.lst ys)) (hl : xs.length = ys.length) (k : ∀ (j : Nat) (u v : V), xs[j]? = some u → ys[j]? = some v → Alike H n u v) : AlikeS H n (.ref a) (.ref b) := ⟨xs, ys, ⟨a, b, rfl, rfl, .inr ⟨ha, hb⟩⟩, hl, k⟩
theorem al_nil {n : Nat} : ∀ (j : Nat) (u v : V), ([] : List V)[j]? = some u → ([] : List V)[j]? = some v → Alike H n u v := fun j u v e _ => by simp at e
theorem al_cons {n : Nat} {x y : V} {xs ys : List V} (h : Alike H n x y) (t : ∀ (j : Nat) (u v : V), xs[j]? = some u → ys[j]? = some v → Alike H n u v) : ∀ (j : Nat) (u v : V), (x :: xs)[j]? = some u → (y :: ys)[j]? = some v → Alike H n u v
  | 0, u, v, e1, e2 => by simp at e1 e2; subst e1; subst e2; exact h
  | j + 1, u, v, e1, e2 => t j u v (by simpa using e1) (by simpa using e2)
theorem rd_eqA {x y : V} {Q : VK} (h : AlikeS H 40 x y) (q : Q (.bl true) H) : rEqA x y H Q := by
  obtain ⟨xs, ys, s, l, k⟩ := h
  exact ⟨xs, ys, s, l, k, q⟩
end
end L2

end
section
set_option Elab.async false
set_option linter.all false
set_option maxRecDepth 100000
set_option maxHeartbeats 4000000
namespace L2
open PySem
/-! ### a walk: what is new since H0 (lists L, data R); of the old objects only those at ow may change -/
section
variable {ow : List Addr} {H0 H H' : Hp} {L L' l1 l2 : List (Addr × HO)} {R R' : List (List D × List V)} {Q : VK} {a q : Addr} {o : HO} {xs ys vs : List V} {ds : List D} {d : D} {v : V}
end
/-! ### with the law's bag -/
section
variable {b l : Addr} {H0 H H' : Hp} {L L' l1 l2 : List (Addr × HO)} {R R' : List (List D × List V)} {Q : VK} {E : XK} {a q : Addr} {o : HO} {xs ys vs : List V} {ds : List D} {d : D} {v : V}
end
theorem rd_lenT' {K : PySem.W.Frag} {H : Hp} {p : Addr} {ys : List V} {Q : VK} (h : SqT K H p ys) (q : Q (.int ys.length) H) : rLen K [.ref p] H Q := ⟨_, _, rfl, .inr ⟨ys, h, rfl⟩, q⟩
section
variable {ow : List Addr} {b l : Addr} {K : PySem.W.Frag} {H0 H H' : Hp} {L L' l1 l2 : List (Addr × HO)} {R R' : List (List D × List V)} {Q : VK} {E : XK} {a q p : Addr} {o : HO} {xs ys zs vs : List V} {ds : List D} {d : D} {v : V}
end
/-! ### slices of tuples -/
theorem k_slT {X : Cx} {K : PySem.W.Frag} (h : X.K = K) : SlR X (rSlT K) := h ▸ sl_tup
theorem rd_slT1 {K : PySem.W.Frag} {H : Hp} {a : Addr} {x : V} {xs : List V} {Q : VK} (h : H a = some (.tup (x :: xs))) (q : ∀ p, H p = none → Q (.ref p) (upd H p (.tup xs))) : rSlT K (.ref a) (some 1) none H Q := by
  refine ⟨a, x :: xs, rfl, SqT.of h, fun z => ?_, fun p hp => ?_⟩
  · have := z.1
    simp [HT.sIx] at this
  · have e : cutV (x :: xs) (some 1) none = xs := cut_from (xs := x :: xs) (k := 1) (by simp)
    rw [e]; exact q p hp
end L2

end
section
set_option Elab.async false
set_option linter.all false
set_option maxRecDepth 100000
set_option maxHeartbeats 4000000
namespace HT
open PySem PySem.Spec PyProof.Rows L2
section
variable {prog : Program} {w : World} {A : Around} {E : Value → Shared → Prop} {s : Shared}
/-- t + u, t empty: u itself -/
theorem cat_tup0 {t b : Addr} {vs ws : List Value} {Q : Value → Shared → Prop} (ht : IsTup s.heap t vs.toArray) (hb : IsTup s.heap b ws.toArray) (hv : vs = []) (h1 : Q (.ref b) s) : wpAny (model prog w) A (binaryOp .Add (.ref t) (.ref b)) Q E s := by
  obtain ⟨⟨cls, dd, data, sl⟩, ho, hc, n, hd⟩ := id ht
  obtain ⟨⟨cls2, dd2, data2, sl2⟩, ho2, hc2, n2, hd2⟩ := id hb
  simp only at hc hd hc2 hd2
  subst hc hd hc2 hd2
  exact concat_meets ⟨_, ho, rfl⟩ ⟨_, ho2, rfl⟩ noFill_tuple_add seq_tuple_add PySem.F.slot_tuple_add PySem.F.entry_tuple_add (PySem.F.args_tuple_add_2 _ _) (tuple_addW0 t b vs.toArray ws.toArray n n2 dd dd2 sl sl2 (by simp [hv])) ⟨ho, ho2, h1⟩
/-- t[a:b], the whole: t itself -/
theorem getItem_tuple_all {t sl : Addr} {items : Array Value} {vl vu : Value} {lo hi : Option Int} {Q : Value → Shared → Prop} (ht : IsTup s.heap t items) (hs : s.heap.IsSliceOf sl vl vu .none) (pl : IsPart vl lo) (pu : IsPart vu hi)
    (hw : sIx items.size 0 lo = 0 ∧ sIx items.size items.size hi = items.size) (h : Q (.ref t) s) : wpAny (model prog w) A (getItem (.ref t) (.ref sl)) Q E s := by
  obtain ⟨os, hos, hcs, hds⟩ := id hs
  have hTs : s.TypeIs (.ref sl) "slice" := ⟨os, hos, hcs⟩
  unfold getItem
  try with_reducible refine wpAny_holding ?_
  first | refine wpAny_bind (wpAny_pure ?_) | skip
  refine wpAny_bind (wpAny_sequenceKey ht.typeIs (by decide) ?_)
  refine wpAny_bind (wpAny_callSpecial?_slot (name := Str.ofString "__getitem__") ht.typeIs PyProof.Rows.slot_tuple_getitem
    (wpAny_call_entry PyProof.Rows.slot_tuple_getitem ht.typeIs entry_tuple_getitem ?_ (args_tuple_getitem _ _)))
  show wpAny _ _ (Builtin.Tuple.tupleItemsOf (.ref t) >>= _) _ _ s
  refine wpAny_bind (tupleItemsOf_ ht ?_)
  refine wpAny_bind (wpAny_typeOf hTs ?_)
  rw [if_pos (by decide)]
  refine wpAny_bind (sliceApplied_gen hs pl pu ?_)
  have hyes : ((((sIx items.size 0 lo : Nat) : Int) == 0 && (1 : Int) == 1 && (sIx items.size items.size hi - sIx items.size 0 lo) == items.size) = true) := by
    rw [hw.1, hw.2]; simp
  show wpAny _ _ (if (((sIx items.size 0 lo : Nat) : Int) == 0 && (1 : Int) == 1 && (sIx items.size items.size hi - sIx items.size 0 lo) == items.size) = true then _ else _) _ _ s
  rw [if_pos hyes]
  refine wpAny_bind ?_
  refine wpAny_bind ?_
  refine wpAny_typeOf ht.typeIs (wpAny_pure ?_)
  rw [if_pos (by decide)]
  exact wpAny_bind (wpAny_rule (wpAny_pure ⟨_, rfl, wpAny_pure h⟩))
end
end HT
namespace L2
open PySem PySem.Spec PyProof.Rows
section
variable {X : Cx} {K : PySem.W.Frag}
/-- t[lo:hi], the whole or not -/
noncomputable def rSlW (K : PySem.W.Frag) : V → Option Int → Option Int → Hp → VK → Prop := fun x lo hi H Q => ∃ a xs, x = .ref a ∧ SqT K H a xs ∧ (cutV xs lo hi = xs → Q (.ref a) H) ∧ ∀ p, H p = none → Q (.ref p) (upd H p (.tup (cutV xs lo hi)))
theorem sl_tupW : SlR X (rSlW X.K) := by
  intro pins s σ H x v vl vu lo hi sl Q I rx hs pl pu h
  obtain ⟨a, xs, rfl, hx, q1, q⟩ := h
  by_cases hw : HT.sIx xs.length 0 lo = 0 ∧ HT.sIx xs.length xs.length hi = xs.length
  · cases rx
    obtain ⟨its, r, ht, hz⟩ := I.tuple hx
    have hlen : its.toArray.size = xs.length := by rw [List.size_toArray]; exact r.length.symm
    refine ⟨"tuple", _, PyProof.Rows.slot_tuple_getitem.lookup, ht.typeIs, ?_⟩
    refine HT.getItem_tuple_all ht hs pl pu (by rw [hlen]; exact hw) ?_
    refine ⟨.ref a, H, I, rfl, q1 ?_⟩
    unfold cutV
    rw [hw.1, hw.2]
    simp
  · exact sl_tup pins s σ H _ v vl vu lo hi sl Q I rx hs pl pu ⟨a, xs, rfl, hx, hw, q⟩
theorem k_slW (h : X.K = K) : SlR X (rSlW K) := h ▸ sl_tupW
/-- t + u of any two tuples -/
noncomputable def rCatW (K : PySem.W.Frag) : R2 := fun x y H Q => ∃ a b xs ys, x = .ref a ∧ y = .ref b ∧ SqT K H a xs ∧ SqT K H b ys ∧ xs.length + ys.length ≤ sizeLine ∧
  (xs = [] → Q (.ref b) H) ∧ (ys = [] → Q (.ref a) H) ∧ ∀ p, H p = none → Q (.ref p) (upd H p (.tup (xs ++ ys)))
theorem op_catW : OpR X (binaryOp .Add) (rCatW X.K) := by
  intro pins s σ H x y v u Q I rx ry h
  obtain ⟨a, b, xs, ys, rfl, rfl, ha, hb, hz, q0, q1, q2⟩ := h
  by_cases hx : xs = []
  · cases rx
    cases ry
    obtain ⟨its, r1, p1, _⟩ := I.tuple ha
    obtain ⟨its2, r2, p2, _⟩ := I.tuple hb
    exact HT.cat_tup0 p1 p2 (r1.nil_iff.mpr hx) ⟨.ref b, H, I, rfl, q0 hx⟩
  · exact op_catT pins s σ H _ _ v u Q I rx ry ⟨a, b, xs, ys, rfl, rfl, ha, hb, hx, hz, q1, fun _ => q2⟩
theorem k_catW (h : X.K = K) : OpR X (binaryOp .Add) (rCatW K) := h ▸ op_catW
end
/-- readings: some tuple with these items, new or not; the heap only grows -/
theorem rd_slW {K : PySem.W.Frag} {H : Hp} {a : Addr} {xs : List V} {lo hi : Option Int} {Q : VK} (h : H a = some (.tup xs)) (q : ∀ p H', H' p = some (.tup (cutV xs lo hi)) → Same H H' → Q (.ref p) H') : rSlW K (.ref a) lo hi H Q :=
  ⟨a, xs, rfl, SqT.of h, fun e => q a H (by rw [e]; exact h) (Same.refl _), fun p hp => q p _ upd_same (Same.new hp)⟩
theorem rd_catW {K : PySem.W.Frag} {H : Hp} {a b : Addr} {xs ys : List V} {Q : VK} (h1 : H a = some (.tup xs)) (h2 : H b = some (.tup ys)) (hz : xs.length + ys.length ≤ 1000000) (q : ∀ p H', H' p = some (.tup (xs ++ ys)) → Same H H' → Q (.ref p) H') : rCatW K (.ref a) (.ref b) H Q :=
  ⟨a, b, xs, ys, rfl, rfl, SqT.of h1, SqT.of h2, small_le' hz, fun e => q b H (by rw [e]; exact h2) (Same.refl _), fun e => q a H (by rw [e, List.append_nil]; exact h1) (Same.refl _), fun p hp => q p _ upd_same (Same.new hp)⟩
end L2

end
section
set_option Elab.async false
set_option linter.all false
set_option maxRecDepth 100000
set_option maxHeartbeats 4000000
namespace L2
open PySem PySem.Spec PyProof.Rows PySem.Builtin PySem.Builtin.Str
section
variable {X : Cx}
/-! ### texts: split, startswith, int(text), a module's own text -/
theorem str_vals : ∀ (l : List (Str × Tok)), Vals ((l.map (·.1)).map V.str) (strValues l)
  | [] => .nil
  | (z, t) :: l => .cons ⟨t, rfl⟩ (str_vals l)
theorem split_len (x y : Str) : (Txt.split x y).length ≤ x.length + 2 := by
  unfold Txt.split
  split
  · show 1 ≤ _; omega
  · split
    · show 1 ≤ _; omega
    · rw [length_partsBetween]
      have := StrLaws.occ_length_le x y 0 x.length (x.length + 1)
      omega
noncomputable def rSplit : V → List V → Hp → VK → Prop := fun x vs H Q => ∃ z y, x = .str z ∧ vs = [.str y] ∧ (y.length == 0) = false ∧ z.length + 2 ≤ sizeLine ∧ ∀ p, H p = none → Q (.ref p) (upd H p (.lst ((Txt.split z y).map V.str)))
theorem mt_split : MtR X "str.split" rSplit := by
  intro pins s σ H x vs v us Q I rx rv h
  obtain ⟨z, y, rfl, rfl, hy, hl, q⟩ := h
  obtain ⟨t, rfl⟩ := rx
  obtain ⟨u, rfl, ru⟩ := rv.one
  obtain ⟨t', rfl⟩ := ru
  have hn := split_len z y
  have fin : ∀ (l : List (Str × Tok)) (k : Nat), l.map (·.1) = Txt.split z y → EP X pins σ Q (.ref s.heap.objs.size) { s with toks := k, heap := s.heap.push { cls := .type "list", data := .seq (strValues l).toArray } } := by
    intro l k e
    refine ⟨.ref s.heap.objs.size, _, I.laid (t' := k) (fun b u e => Heap.get?_push_of_some _ e) (Nat.le_refl _) ?_, rfl, q _ I.fresh⟩
    refine ⟨by rw [List.length_map]; omega, strValues l, 0, by rw [← e]; exact str_vals l, Heap.get?_push_size _ rfl⟩
  have hx : z.length ≤ sizeLine := by omega
  have hp : (partsBetween z (occurrences z y 0 z.length (z.length + 1)) y.length).length ≤ sizeLine := by
    rw [length_partsBetween]
    have := StrLaws.occ_length_le z y 0 z.length (z.length + 1)
    omega
  cases h1 : (decide (z.length < y.length) || decide (strKind z < strKind y))
  · cases hf : (occurrences z y 0 z.length (z.length + 1)).isEmpty
    · refine call_meets F.slot_str_split (typeIs_str _ _ _) F.entry_str_split (F.args_str_split_2 _ _) (meets_str_split_sep z y t t' h1 hy hf hx hp) ?_
      show wants _ _ _ { s with toks := _, heap := s.heap.push { cls := .type "list", data := .seq (strsFrom s.toks (partsBetween z (occurrences z y 0 z.length (z.length + 1)) y.length)).toArray } }
      rw [strsFrom_eq]
      exact fin (numbered s.toks _) _ ((numbered_texts _ _).trans ((if_neg (ne_true_of_eq_false h1)).trans (if_neg (ne_true_of_eq_false hf))).symm)
    · exact call_meets F.slot_str_split (typeIs_str _ _ _) F.entry_str_split (F.args_str_split_2 _ _) (meets_str_split_not_found z y t t' h1 hy hf) (fin [(z, t)] _ ((if_neg (ne_true_of_eq_false h1)).trans (if_pos hf)).symm)
  · exact call_meets F.slot_str_split (typeIs_str _ _ _) F.entry_str_split (F.args_str_split_2 _ _) (meets_str_split_cannot_occur z y t t' h1) (fin [(z, t)] _ (if_pos h1).symm)
theorem rd_split {z y : Str} {H : Hp} {Q : VK} (hy : (y.length == 0) = false) (hl : z.length + 2 ≤ sizeLine) (q : ∀ p, H p = none → Q (.ref p) (upd H p (.lst ((Txt.split z y).map V.str)))) : rSplit (.str z) [.str y] H Q := ⟨z, y, rfl, rfl, hy, hl, q⟩
noncomputable def rStarts : V → List V → Hp → VK → Prop := fun x vs H Q => ∃ z y, x = .str z ∧ vs = [.str y] ∧ Q (.bl (Txt.startswith z y)) H
theorem mt_starts : MtR X "str.startswith" rStarts := by
  intro pins s σ H x vs v us Q I rx rv h
  obtain ⟨z, y, rfl, rfl, q⟩ := h
  obtain ⟨t, rfl⟩ := rx
  obtain ⟨u, rfl, ru⟩ := rv.one
  obtain ⟨t', rfl⟩ := ru
  exact call_meets F.slot_str_startswith (typeIs_str _ _ _) F.entry_str_startswith (F.args_str_startswith_2 _ _) (gives_str_startswith z y t t').meets ⟨.bl _, H, I, rfl, q⟩
theorem rd_starts {z y : Str} {H : Hp} {Q : VK} (q : Q (.bl (Txt.startswith z y)) H) : rStarts (.str z) [.str y] H Q := ⟨z, y, rfl, rfl, q⟩
noncomputable def rIntT : List V → Hp → VK → Prop := fun xs H Q => ∃ z n, xs = [.str z] ∧ PySem.intText? z = some n ∧ z.length ≤ 640 ∧ Q (.int n) H
theorem call_intT : CallR X (.type "int") rIntT := by
  intro pins s σ H xs us Q I r h
  obtain ⟨z, n, rfl, hn, hl, q⟩ := h
  obtain ⟨u, rfl, ru⟩ := vals1 r
  obtain ⟨t, rfl⟩ := ru
  exact PySem.W.KIN.call_text hn hl ⟨.int n, H, I.tok _, ⟨_, rfl⟩, q⟩
theorem rd_intT {z : Str} {n : Int} {H : Hp} {Q : VK} (h : PySem.intText? z = some n) (hl : z.length ≤ 640) (q : Q (.int n) H) : rIntT [.str z] H Q := ⟨z, n, rfl, h, hl, q⟩
noncomputable def rStrI : List V → Hp → VK → Prop := fun xs H Q => ∃ i, xs = [.int i] ∧ i.natAbs.log2 < 1920 ∧ Q (.str (toString i)) H
theorem call_strI : CallR X (.type "str") rStrI := call_str_int
theorem rd_strI {i : Int} {H : Hp} {Q : VK} (h : i.natAbs.log2 < 1920) (q : Q (.str (toString i)) H) : rStrI [.int i] H Q := ⟨i, rfl, h, q⟩
noncomputable def rAddS : R2 := fun x y H Q => ∃ i j, x = .str i ∧ y = .str j ∧ i.length + j.length ≤ sizeLine ∧ Q (.str (i ++ j)) H
theorem op_addS : OpR X (binaryOp .Add) rAddS := op_add_str
theorem rd_addS {i j : Str} {H : Hp} {Q : VK} (h : i.length + j.length ≤ sizeLine) (q : Q (.str (i ++ j)) H) : rAddS (.str i) (.str j) H Q := ⟨i, j, rfl, rfl, h, q⟩
noncomputable def rInS : R2 := fun x y H Q => ∃ i j, x = .str i ∧ y = .str j ∧ Q (.bl (!(Builtin.Str.occurrences j i 0 j.length 1).isEmpty)) H
theorem op_inS : OpR X (compareOp .In) rInS := op_in_str
/-- one sign in a text -/
theorem rd_inS1 {c : Nat} {z : Str} {H : Hp} {Q : VK} (q : Q (.bl (decide (c ∈ z.cps.toList))) H) : rInS (.str ⟨#[c]⟩) (.str z) H Q := ⟨_, _, rfl, rfl, by rw [StrLaws.found_one]; exact q⟩
theorem k_join {K : PySem.W.Frag} (h : X.K = K) : MtR X "str.join" (rJoin K) := h ▸ mt_join
theorem rd_join {K : PySem.W.Frag} {z : Str} {a : Addr} {zs : List Str} {H : Hp} {Q : VK} (ha : SqL K H a (zs.map V.str)) (hl : z.length ≤ 16) (hw : (zs.map (·.length)).sum + zs.length ≤ 1048576) (q : Q (.str (Str.join z zs)) H) : rJoin K (.str z) [.ref a] H Q :=
  ⟨z, a, zs, rfl, rfl, ha, hl, hw, by rw [show Txt.join z zs = Str.join z zs from StrLaws.glued_eq_join z zs]; exact q⟩
theorem pe_cstr {x z : Str} {pos : Pos} (hg : Gl X x) (h : ∃ t, X.mg x = some (.str z t)) (hd : (x == ("__debug__" : Str)) = false := by decide) : PE X (.Name x pos) (tC (.str z)) := by
  obtain ⟨t, ht⟩ := h
  intro pins s σ H Q I q
  exact ld_glob I hg ht ⟨.str z, H, I, ⟨t, rfl⟩, q⟩ hd
end
end L2

end
section
set_option Elab.async false
set_option linter.all false
set_option maxRecDepth 100000
set_option maxHeartbeats 4000000
namespace L2
open PySem PySem.Spec PyProof.Rows PySem.Builtin PySem.Builtin.Str PySem.NumText
/-! ### texts, as data -/
noncomputable abbrev cs (z : Str) : List Nat := z.cps.toList
theorem cs_inj {x y : Str} (h : cs x = cs y) : x = y := by
  obtain ⟨a⟩ := x
  obtain ⟨b⟩ := y
  have : a = b := Array.toList_inj.mp h
  rw [this]
theorem cs_app (x y : Str) : cs (x ++ y) = cs x ++ cs y := cps_toList_append x y
theorem cs_len (x : Str) : (cs x).length = x.length := Array.length_toList
theorem len_app (x y : Str) : (x ++ y).length = x.length + y.length := by
  rw [← cs_len, ← cs_len, ← cs_len, cs_app, List.length_append]
/-- joined by one sign -/
noncomputable def jn (c : Nat) : List (List Nat) → List Nat
  | [] => []
  | [x] => x
  | x :: y :: r => x ++ c :: jn c (y :: r)
theorem cs_join (c : Nat) : ∀ (ps : List Str), cs (Str.join ⟨#[c]⟩ ps) = jn c (ps.map cs)
  | [] => rfl
  | [x] => rfl
  | x :: y :: r => by
    show cs (x ++ ⟨#[c]⟩ ++ Str.join ⟨#[c]⟩ (y :: r)) = _
    rw [cs_app, cs_app, cs_join c (y :: r)]
    show (cs x ++ [c]) ++ _ = cs x ++ c :: _
    rw [List.append_assoc]
    rfl
theorem jn_one {c : Nat} : ∀ {ps qs : List (List Nat)}, ps ≠ [] → qs ≠ [] → (∀ p ∈ ps, c ∉ p) → (∀ q ∈ qs, c ∉ q) → jn c ps = jn c qs → ps = qs := by
  have cut : ∀ {x y a b : List Nat}, c ∉ x → c ∉ y → x ++ c :: a = y ++ c :: b → x = y ∧ a = b := by
    intro x
    induction x with
    | nil =>
      intro y a b _ hy e
      cases y with
      | nil => exact ⟨rfl, (List.cons.inj e).2⟩
      | cons d y => exact absurd ((List.cons.inj e).1 ▸ List.mem_cons_self) hy
    | cons d x ih =>
      intro y a b hx hy e
      cases y with
      | nil => exact absurd ((List.cons.inj e).1 ▸ List.mem_cons_self) hx
      | cons d' y =>
        obtain ⟨e1, e2⟩ := List.cons.inj e
        obtain ⟨e3, e4⟩ := ih (fun h => hx (List.mem_cons_of_mem _ h)) (fun h => hy (List.mem_cons_of_mem _ h)) e2
        exact ⟨by rw [e1, e3], e4⟩
  intro ps
  induction ps with
  | nil => intro qs h; exact absurd rfl h
  | cons p ps ih =>
    intro qs _ hq fp fq e
    cases qs with
    | nil => exact absurd rfl hq
    | cons q qs =>
      cases ps with
      | nil =>
        cases qs with
        | nil => exact congrArg (fun z => [z]) e
        | cons q2 qs =>
          refine absurd ?_ (fp p List.mem_cons_self)
          rw [show p = q ++ c :: jn c (q2 :: qs) from e]
          exact List.mem_append_right _ List.mem_cons_self
      | cons p2 ps =>
        cases qs with
        | nil =>
          refine absurd ?_ (fq q List.mem_cons_self)
          rw [show q = p ++ c :: jn c (p2 :: ps) from e.symm]
          exact List.mem_append_right _ List.mem_cons_self
        | cons q2 qs =>
          obtain ⟨e1, e2⟩ := cut (fp p List.mem_cons_self) (fq q List.mem_cons_self) e
          rw [e1, ih (List.cons_ne_nil _ _) (List.cons_ne_nil _ _) (fun z hz => fp z (List.mem_cons_of_mem _ hz)) (fun z hz => fq z (List.mem_cons_of_mem _ hz)) e2]
theorem split_ne (x y : Str) : Txt.split x y ≠ [] := by
  unfold Txt.split
  split
  · exact List.cons_ne_nil _ _
  · split
    · exact List.cons_ne_nil _ _
    · intro h
      have := congrArg List.length h
      rw [length_partsBetween] at this
      exact absurd this (Nat.succ_ne_zero _)
/-- what was joined is cut again -/
theorem split_join {c : Nat} {ps : List Str} (h : ps ≠ []) (f : ∀ p ∈ ps, c ∉ cs p) : Txt.split (Str.join ⟨#[c]⟩ ps) ⟨#[c]⟩ = ps := by
  have e := StrLaws.join_split (Str.join ⟨#[c]⟩ ps) ⟨#[c]⟩
  have e1 := congrArg cs e
  rw [cs_join, cs_join] at e1
  have e2 := jn_one (fun z => split_ne _ _ (List.map_eq_nil_iff.mp z)) (fun z => h (List.map_eq_nil_iff.mp z)) (fun p hp => by
    obtain ⟨q, hq, rfl⟩ := List.mem_map.mp hp
    exact StrLaws.split_free _ c q hq) (fun p hp => by
    obtain ⟨q, hq, rfl⟩ := List.mem_map.mp hp
    exact f q hq) e1
  exact List.map_inj_right (f := cs) (fun _ _ => cs_inj) |>.mp e2
/-- lists of lines, joined -/
theorem join_two (s : Str) : ∀ {a b : List Str}, a ≠ [] → b ≠ [] → Str.join s (a ++ b) = Str.join s a ++ s ++ Str.join s b
  | [], _, h, _ => absurd rfl h
  | [x], [], _, h => absurd rfl h
  | [x], y :: b, _, _ => rfl
  | x :: y :: a, b, _, hb => by
    show x ++ s ++ Str.join s (y :: a ++ b) = x ++ s ++ Str.join s (y :: a) ++ s ++ Str.join s b
    rw [join_two s (List.cons_ne_nil y a) hb]
    apply cs_inj
    simp only [cs_app, List.append_assoc]
theorem join_flat (s : Str) : ∀ {ls : List (List Str)}, (∀ l ∈ ls, l ≠ []) → Str.join s (ls.map (Str.join s)) = Str.join s ls.flatten
  | [], _ => rfl
  | [l], _ => by
    show Str.join s l = Str.join s (l ++ [])
    rw [List.append_nil]
  | l :: m :: ls, h => by
    show Str.join s l ++ s ++ Str.join s ((m :: ls).map (Str.join s)) = Str.join s (l ++ (m :: ls).flatten)
    have hn : (m :: ls).flatten ≠ [] := by
      intro z
      have := List.append_eq_nil_iff.mp (show m ++ ls.flatten = [] from z)
      exact h m (List.mem_cons_of_mem _ List.mem_cons_self) this.1
    rw [join_flat s (fun x hx => h x (List.mem_cons_of_mem _ hx)), join_two s (h l List.mem_cons_self) hn]
/-! ### whole numbers as texts -/
noncomputable def numS (n : Int) : Str := toString n
noncomputable def figs (m : Nat) : List Nat := (Nat.toDigits 10 m).map Char.toNat
theorem cs_num (m : Nat) : cs (numS (m : Int)) = figs m := PySem.W.KIN.signs_num m
theorem cs_neg (m : Nat) : cs (numS (-((m + 1 : Nat) : Int))) = 45 :: figs (m + 1) := by
  show (Str.ofString (toString (Int.negSucc m))).cps.toList = _
  rw [signs_ofString]
  show (("-" ++ Nat.repr (m + 1) : String)).toList.map Char.toNat = _
  rw [String.toList_append, List.map_append, Nat.toList_repr]
  rfl
theorem figs_digits (m : Nat) : AllDigits (figs m) := by
  intro c hc
  obtain ⟨ch, hch, e⟩ := List.mem_map.mp hc
  rw [← e]
  exact digit_range (Nat.isDigit_of_mem_toDigits (by decide) (by decide) hch)
theorem figs_ne (m : Nat) : figs m ≠ [] := by
  intro e
  have h := toDigits_len_ge 10 m
  rw [List.map_eq_nil_iff.mp e] at h
  exact absurd h (by decide)
theorem figs_big {m : Nat} (h : 10 ≤ m) : figs m = figs (m / 10) ++ figs (m % 10) := by
  have t : Nat.toDigits 10 (m / 10) ++ Nat.toDigits 10 (m % 10) = Nat.toDigits 10 (10 * (m / 10) + m % 10) := Nat.toDigits_append_toDigits (by decide) (by omega) (Nat.mod_lt m (by decide))
  rw [Nat.div_add_mod] at t
  unfold figs
  rw [← t, List.map_append]
theorem figs_one : ∀ m : Nat, m < 10 → figs m = [48 + m] := by decide
theorem figs_len : ∀ (k m : Nat), 0 < k → m < 10 ^ k → (figs m).length ≤ k := by
  intro k
  induction k with
  | zero => intro m h; exact absurd h (Nat.lt_irrefl _)
  | succ k ih =>
    intro m _ hm
    by_cases h : m < 10
    · rw [figs_one m h]
      exact Nat.le_add_left _ _
    · rw [figs_big (by omega), List.length_append, figs_one _ (Nat.mod_lt m (by decide))]
      cases k with
      | zero => omega
      | succ k =>
        have := ih (m / 10) (Nat.succ_pos _) (by rw [Nat.div_lt_iff_lt_mul (by decide)]; rw [Nat.pow_succ] at hm; exact hm)
        show _ + 1 ≤ _
        omega
theorem figs_head : ∀ (m : Nat), 0 < m → ∃ c r, figs m = c :: r ∧ c ≠ 48 := by
  intro m
  induction m using Nat.strongRecOn with
  | _ m ih =>
    intro hm
    by_cases h : m < 10
    · exact ⟨48 + m, [], figs_one m h, by omega⟩
    · obtain ⟨c, r, e, n⟩ := ih (m / 10) (by omega) (by omega)
      exact ⟨c, r ++ figs (m % 10), by rw [figs_big (by omega), e]; rfl, n⟩
theorem figs_val (m : Nat) : digitsVal (figs m) = m := PySem.W.KIN.val_back m
/-- a number that has at most sixty figures -/
noncomputable def Small (n : Int) : Prop := n.natAbs < 10 ^ 60
theorem num_cases (n : Int) : (∃ m : Nat, n = m ∧ cs (numS n) = figs m) ∨ ∃ m : Nat, 0 < m ∧ n = -(m : Int) ∧ cs (numS n) = 45 :: figs m := by
  rcases Int.lt_or_le n 0 with h | h
  · right
    refine ⟨n.natAbs, by omega, by omega, ?_⟩
    have e : n = -(((n.natAbs - 1) + 1 : Nat) : Int) := by omega
    have e2 : n.natAbs = n.natAbs - 1 + 1 := by omega
    rw [show cs (numS n) = cs (numS (-(((n.natAbs - 1) + 1 : Nat) : Int))) by rw [← e], cs_neg, ← e2]
  · left
    obtain ⟨m, rfl⟩ := Int.eq_ofNat_of_zero_le h
    exact ⟨m, rfl, cs_num m⟩
theorem num_len {n : Int} (h : Small n) : (numS n).length ≤ 61 := by
  rw [← cs_len]
  rcases num_cases n with ⟨m, rfl, e⟩ | ⟨m, _, rfl, e⟩
  · rw [e]
    have := figs_len 60 m (by decide) (by unfold Small at h; omega)
    omega
  · rw [e]
    have := figs_len 60 m (by decide) (by unfold Small at h; omega)
    show _ + 1 ≤ _
    omega
theorem num_signs (n : Int) : ∀ c ∈ cs (numS n), c = 45 ∨ (48 ≤ c ∧ c ≤ 57) := by
  intro c hc
  rcases num_cases n with ⟨m, _, e⟩ | ⟨m, _, _, e⟩
  · rw [e] at hc
    exact .inr (figs_digits m c hc)
  · rw [e] at hc
    rcases List.mem_cons.mp hc with z | z
    · exact .inl z
    · exact .inr (figs_digits m c z)
theorem small_log {n : Int} (h : Small n) : n.natAbs.log2 < 1920 := by
  unfold Small at h
  by_cases z : n.natAbs = 0
  · rw [z]; decide
  · rw [Nat.log2_lt z]
    refine Nat.lt_of_lt_of_le h (Nat.le_trans (Nat.pow_le_pow_left (by decide : 10 ≤ 2 ^ 4) 60) ?_)
    rw [← Nat.pow_mul]
    exact Nat.pow_le_pow_right (by decide) (by decide)
end L2

end
section
set_option Elab.async false
set_option linter.all false
set_option maxRecDepth 100000
set_option maxHeartbeats 4000000
namespace L2
open PySem PySem.Spec PyProof.Rows PySem.Builtin PySem.Builtin.Str PySem.NumText
/-! ### reading: a whole number, a line, a program -/
noncomputable def minus : Str := "-"
noncomputable def blank : Str := " "
noncomputable def feed : Str := "\n"
theorem minus_eq : minus = ⟨#[45]⟩ := by decide
theorem blank_eq : blank = ⟨#[32]⟩ := by decide
theorem feed_eq : feed = ⟨#[10]⟩ := by decide
noncomputable def isFig (c : Nat) : Bool := decide (48 ≤ c) && decide (c ≤ 57)
/-- the figures -/
noncomputable def figT (z : Str) : List Nat := if (cs z).head? = some 45 then (cs z).drop 1 else cs z
noncomputable def wholeP (most : Nat) (z : Str) : Option Int :=
  if (1 ≤ (figT z).length ∧ (figT z).length ≤ most) ∧ (figT z).all isFig = true then (if (figT z).head? = some 48 ∧ cs z ≠ [48] then none else intText? z) else none
theorem starts_minus (z : Str) : Txt.startswith z minus = decide ((cs z).head? = some 45) := by
  rw [Bool.eq_iff_iff, minus_eq]
  unfold Txt.startswith
  rw [Bool.and_eq_true, decide_eq_true_eq, decide_eq_true_eq]
  have := StrLaws.subAt_one z 45 0
  rw [List.head?_eq_getElem?]
  exact this
theorem slice1 (z : Str) (h : 1 ≤ z.length) : cs (Txt.slice z (some 1) none) = (cs z).drop 1 := by
  rw [slice_from_eq (b := z.length) (by decide) (by omega) rfl]
  show ((z.cps.toList.drop 1).take ((z.length : Int) - 1).toNat) = _
  rw [List.take_of_length_le]
  rw [List.length_drop]
  have : z.cps.toList.length = z.length := cs_len z
  omega
theorem isFig_of {c : Nat} : isFig c = true ↔ 48 ≤ c ∧ c ≤ 57 := by simp [isFig]
theorem allFig {l : List Nat} : l.all isFig = true ↔ AllDigits l := by
  rw [List.all_eq_true]
  exact ⟨fun h c hc => isFig_of.mp (h c hc), fun h c hc => isFig_of.mpr (h c hc)⟩
/-- what is written in figures is read -/
theorem whole_some {most : Nat} {z : Str} (hm : most ≤ 600) (h1 : 1 ≤ (figT z).length ∧ (figT z).length ≤ most) (h2 : (figT z).all isFig = true) : z.length ≤ 601 ∧ ∃ n, intText? z = some n := by
  have hl := cs_len z
  have hd := allFig.mp h2
  unfold figT at h1 hd
  split at h1
  · next e =>
    rw [if_pos e] at hd
    cases ez : cs z with
    | nil => rw [ez] at e; cases e
    | cons c r =>
      rw [ez] at e h1 hd hl
      cases e
      have hr : (List.drop 1 (45 :: r)) = r := rfl
      rw [hr] at h1 hd
      simp only [List.length_cons] at hl
      exact ⟨by omega, _, intText_neg ez hd (fun z => by rw [z] at h1; exact absurd h1.1 (by decide)) (by omega)⟩
  · next e =>
    rw [if_neg e] at hd
    exact ⟨by omega, _, intText_digits hd (fun z => by rw [show cs _ = [] from z] at h1; exact absurd h1.1 (by decide)) (by omega)⟩
theorem fig_num (n : Int) : ∃ m : Nat, n.natAbs = m ∧ figT (numS n) = figs m := by
  rcases num_cases n with ⟨m, rfl, e⟩ | ⟨m, hm, rfl, e⟩
  · refine ⟨m, by omega, ?_⟩
    unfold figT
    rw [e]
    obtain ⟨c, r, ec⟩ : ∃ c r, figs m = c :: r := by
      cases h : figs m with
      | nil => exact absurd h (figs_ne m)
      | cons c r => exact ⟨c, r, rfl⟩
    rw [if_neg]
    intro z
    have hc := figs_digits m c (by rw [ec]; exact List.mem_cons_self)
    rw [ec] at z
    cases z
    omega
  · refine ⟨m, by omega, ?_⟩
    unfold figT
    rw [e]
    rfl
/-- a number that was shown is read as it -/
theorem whole_num {n : Int} (h : Small n) : wholeP 60 (numS n) = some n := by
  obtain ⟨m, em, ef⟩ := fig_num n
  have hl := figs_len 60 m (by decide) (by rw [← em]; exact h)
  have hp : 1 ≤ (figs m).length := List.length_pos_iff.mpr (figs_ne m)
  unfold wholeP
  rw [ef, if_pos ⟨⟨hp, hl⟩, allFig.mpr (figs_digits m)⟩]
  have hx : ¬ ((figs m).head? = some 48 ∧ cs (numS n) ≠ [48]) := by
    rintro ⟨h1, h2⟩
    by_cases z : m = 0
    · subst z
      apply h2
      obtain rfl : n = 0 := by omega
      decide
    · obtain ⟨c, r, e, hc⟩ := figs_head m (Nat.pos_of_ne_zero z)
      rw [e] at h1
      cases h1
      exact hc rfl
  rw [if_neg hx]
  have hs := num_len h
  rcases num_cases n with ⟨k, rfl, e⟩ | ⟨k, hk, rfl, e⟩
  · have q := intText_digits (x := numS (k : Int)) (by show AllDigits (cs _); rw [e]; exact figs_digits k) (by show cs _ ≠ []; rw [e]; exact figs_ne k) (by omega)
    rw [q]
    show some (((digitsVal (cs (numS (k : Int))) : Nat) : Int)) = _
    rw [e, figs_val]
  · rw [intText_neg (x := numS (-(k : Int))) e (figs_digits k) (figs_ne k) (by omega), figs_val]
/-- what is read is shown as it was -/
theorem mapM_some {α β : Type} {f : α → Option β} : ∀ {l : List α} {r : List β}, l.mapM f = some r → l.length = r.length ∧ ∀ (i : Nat) a, l[i]? = some a → ∃ b, r[i]? = some b ∧ f a = some b := by
  intro l
  induction l with
  | nil =>
    intro r h
    cases h
    exact ⟨rfl, fun i a e => by cases e⟩
  | cons x l ih =>
    intro r h
    rw [List.mapM_cons] at h
    cases ex : f x with
    | none => rw [ex] at h; cases h
    | some y =>
      rw [ex] at h
      cases el : l.mapM f with
      | none => rw [el] at h; cases h
      | some ys =>
        rw [el] at h
        cases h
        obtain ⟨h1, h2⟩ := ih el
        refine ⟨by simp [h1], fun i a e => ?_⟩
        cases i with
        | zero => cases e; exact ⟨y, rfl, ex⟩
        | succ i => exact h2 i a e
theorem mapM_nums : ∀ {ns : List Int}, (∀ n ∈ ns, Small n) → (ns.map numS).mapM (wholeP 60) = some ns
  | [], _ => rfl
  | n :: ns, h => by
    rw [List.map_cons, List.mapM_cons, whole_num (h n List.mem_cons_self), mapM_nums fun x hx => h x (List.mem_cons_of_mem _ hx)]
    rfl
/-! ### rows -/
noncomputable def callW : Str := "call"
noncomputable def defW : Str := "def"
noncomputable def rowP (w : Str) (ns : List Int) : Option (Str × List D) := match partsT.lookup w with
  | none => none
  | some ks => if w = callW then (match ns with
      | a :: b :: qs => some (callW, [.int a, .int b, .tup (qs.map D.int)])
      | _ => none) else if ns.length = ks.length then some (w, ns.map D.int) else none
noncomputable def addRow (acc : List PDef) (r : Str × List D) : List PDef := match acc.getLast? with
  | some d => acc.dropLast ++ [(d.1, d.2.1, d.2.2 ++ [r])]
  | none => []
noncomputable def lineW (acc : List PDef) (w : Str) (ns : List Int) : Option (List PDef) :=
  if w = defW then (match ns with
    | [a, b] => some (acc ++ [(a, b, [])])
    | _ => none) else if acc = [] then none else (rowP w ns).map (addRow acc)
noncomputable def lineP (acc : List PDef) (line : Str) : Option (List PDef) := match Txt.split line blank with
  | [] => none
  | w :: ws => match ws.mapM (wholeP 60) with
    | none => none
    | some ns => lineW acc w ns
noncomputable def readP (z : Str) : Option (List PDef) := (Txt.split z feed).foldlM lineP []
/-! ### and shown -/
noncomputable def rowT (w : Str) (ns : List Int) : Str := Str.join blank (w :: ns.map numS)
noncomputable def intD : D → List Int
  | .int n => [n]
  | _ => []
noncomputable def numD : D → List Int
  | .int n => [n]
  | .tup ds => ds.flatMap intD
  | _ => []
/-- a row's numbers -/
noncomputable def numsOf (r : Str × List D) : List Int := r.2.flatMap numD
theorem nums_ints : ∀ (ns : List Int), (ns.map D.int).flatMap numD = ns
  | [] => rfl
  | n :: ns => by
    rw [List.map_cons, List.flatMap_cons, nums_ints ns]
    rfl
theorem nums_ints' : ∀ (ns : List Int), (ns.map D.int).flatMap intD = ns
  | [] => rfl
  | n :: ns => by
    rw [List.map_cons, List.flatMap_cons, nums_ints' ns]
    rfl
theorem rowP_w {w : Str} {ns : List Int} {r : Str × List D} (h : rowP w ns = some r) : r.1 = w ∧ numsOf r = ns := by
  unfold rowP at h
  split at h
  · cases h
  · split at h
    · next e =>
      subst e
      rcases ns with _ | ⟨a, _ | ⟨b, qs⟩⟩
      · cases h
      · cases h
      · cases h
        refine ⟨rfl, ?_⟩
        show [a] ++ ([b] ++ ((qs.map D.int).flatMap intD ++ [])) = _
        rw [nums_ints', List.append_nil]
        rfl
    · split at h
      · cases h
        exact ⟨rfl, nums_ints ns⟩
      · cases h
/-- a row as the reading makes it, its numbers of at most sixty figures -/
structure RowR (r : Str × List D) : Prop where
  row : rowP r.1 (numsOf r) = some r
  num : ∀ n ∈ numsOf r, Small n
structure DefR (d : PDef) : Prop where
  takes : Small d.1
  boxes : Small d.2.1
  rows : ∀ r ∈ d.2.2, RowR r
noncomputable def headT (d : PDef) : Str := rowT defW [d.1, d.2.1]
noncomputable def defL (d : PDef) : List Str := headT d :: d.2.2.map fun r => rowT r.1 (numsOf r)
noncomputable def progT (ds : List PDef) : Str := Str.join feed (ds.map fun d => Str.join feed (defL d))
/-- words of rows have small letters alone -/
theorem word_free {w : Str} {ns : List Int} {r : Str × List D} (h : rowP w ns = some r) : (32 ∉ cs w ∧ 10 ∉ cs w) ∧ w ≠ defW ∧ w.length ≤ 10 := by
  have hk : ∀ q ∈ partsT, (32 ∉ cs q.1 ∧ 10 ∉ cs q.1) ∧ q.1 ≠ defW ∧ q.1.length ≤ 10 := by decide +kernel
  unfold rowP at h
  split at h
  · cases h
  · next ks e =>
    have : ∀ (l : List (Str × List Str)), l.lookup w = some ks → (w, ks) ∈ l := by
      intro l
      induction l with
      | nil => intro h; cases h
      | cons q l ih =>
        intro h
        obtain ⟨a, b⟩ := q
        rw [List.lookup_cons] at h
        split at h
        · next e => cases h; rw [beq_iff_eq.mp e]; exact List.mem_cons_self
        · exact List.mem_cons_of_mem _ (ih h)
    exact hk _ (this _ e)
theorem num_free (n : Int) : 32 ∉ cs (numS n) ∧ 10 ∉ cs (numS n) := ⟨fun h => by have := num_signs n _ h; omega, fun h => by have := num_signs n _ h; omega⟩
theorem jn_free {c d : Nat} (hcd : c ≠ d) : ∀ {ps : List (List Nat)}, (∀ p ∈ ps, c ∉ p) → c ∉ jn d ps
  | [], _ => List.not_mem_nil
  | [x], h => h x List.mem_cons_self
  | x :: y :: r, h => by
    show c ∉ x ++ d :: jn d (y :: r)
    intro z
    rcases List.mem_append.mp z with z | z
    · exact h x List.mem_cons_self z
    · rcases List.mem_cons.mp z with z | z
      · exact hcd z
      · exact jn_free hcd (fun p hp => h p (List.mem_cons_of_mem _ hp)) z
theorem row_split {w : Str} {ns : List Int} (h : 32 ∉ cs w) : Txt.split (rowT w ns) blank = w :: ns.map numS := by
  unfold rowT
  rw [blank_eq]
  refine split_join (List.cons_ne_nil _ _) fun p hp => ?_
  rcases List.mem_cons.mp hp with rfl | hp
  · exact h
  · obtain ⟨n, _, rfl⟩ := List.mem_map.mp hp
    exact (num_free n).1
theorem row_free {w : Str} {ns : List Int} (h : 10 ∉ cs w) : 10 ∉ cs (rowT w ns) := by
  unfold rowT
  rw [blank_eq, cs_join]
  refine jn_free (by decide) fun p hp => ?_
  obtain ⟨q, hq, rfl⟩ := List.mem_map.mp hp
  rcases List.mem_cons.mp hq with rfl | hq
  · exact h
  · obtain ⟨n, _, rfl⟩ := List.mem_map.mp hq
    exact (num_free n).2
theorem line_row {acc : List PDef} {r : Str × List D} (h : RowR r) (ha : acc ≠ []) : lineP acc (rowT r.1 (numsOf r)) = some (addRow acc r) := by
  have hw := word_free h.row
  unfold lineP
  rw [row_split hw.1.1]
  show (match ((numsOf r).map numS).mapM (wholeP 60) with | none => none | some ns => lineW acc r.1 ns) = _
  rw [mapM_nums h.num]
  show lineW acc r.1 (numsOf r) = _
  unfold lineW
  rw [if_neg hw.2.1, if_neg ha, h.row]
  rfl
theorem line_head {acc : List PDef} {d : PDef} (h1 : Small d.1) (h2 : Small d.2.1) : lineP acc (headT d) = some (acc ++ [(d.1, d.2.1, [])]) := by
  unfold lineP headT
  rw [row_split (by decide)]
  show (match ([d.1, d.2.1].map numS).mapM (wholeP 60) with | none => none | some ns => lineW acc defW ns) = _
  rw [mapM_nums (by
    intro n hn
    simp only [List.mem_cons, List.not_mem_nil, or_false] at hn
    rcases hn with rfl | rfl <;> assumption)]
  rfl
theorem addRow_snoc {acc : List PDef} {d : PDef} {r : Str × List D} : addRow (acc ++ [d]) r = acc ++ [(d.1, d.2.1, d.2.2 ++ [r])] := by
  unfold addRow
  rw [List.getLast?_concat, List.dropLast_concat]
theorem lines_rows : ∀ {rs : List (Str × List D)} {acc : List PDef} {d : PDef}, (∀ r ∈ rs, RowR r) → (rs.map fun r => rowT r.1 (numsOf r)).foldlM lineP (acc ++ [d]) = some (acc ++ [(d.1, d.2.1, d.2.2 ++ rs)])
  | [], acc, d, _ => by rw [List.append_nil]; rfl
  | r :: rs, acc, d, h => by
    rw [List.map_cons, List.foldlM_cons, line_row (h r List.mem_cons_self) (by simp), addRow_snoc]
    show (rs.map fun r => rowT r.1 (numsOf r)).foldlM lineP (acc ++ [(d.1, d.2.1, d.2.2 ++ [r])]) = _
    rw [lines_rows fun x hx => h x (List.mem_cons_of_mem _ hx)]
    simp
theorem lines_def {acc : List PDef} {d : PDef} (h : DefR d) : (defL d).foldlM lineP acc = some (acc ++ [d]) := by
  unfold defL
  rw [List.foldlM_cons, line_head h.takes h.boxes]
  show (d.2.2.map fun r => rowT r.1 (numsOf r)).foldlM lineP (acc ++ [(d.1, d.2.1, [])]) = _
  rw [lines_rows h.rows]
  rfl
theorem lines_prog : ∀ {ds acc : List PDef}, (∀ d ∈ ds, DefR d) → (ds.map defL).flatten.foldlM lineP acc = some (acc ++ ds)
  | [], acc, _ => by rw [List.append_nil]; rfl
  | d :: ds, acc, h => by
    rw [List.map_cons, List.flatten_cons, List.foldlM_append, lines_def (h d List.mem_cons_self)]
    show (ds.map defL).flatten.foldlM lineP (acc ++ [d]) = _
    rw [lines_prog fun x hx => h x (List.mem_cons_of_mem _ hx)]
    simp
theorem prog_lines (ds : List PDef) : progT ds = Str.join feed (ds.map defL).flatten := by
  unfold progT
  rw [← join_flat feed (ls := ds.map defL) (fun l hl => by
    obtain ⟨d, _, rfl⟩ := List.mem_map.mp hl
    exact List.cons_ne_nil _ _), List.map_map]
  rfl
theorem def_free {d : PDef} (h : DefR d) : ∀ l ∈ defL d, 10 ∉ cs l := by
  intro l hl
  rcases List.mem_cons.mp hl with rfl | hl
  · exact row_free (by decide)
  · obtain ⟨r, hr, rfl⟩ := List.mem_map.mp hl
    exact row_free (word_free (h.rows r hr).row).1.2
/-- THE WORD: a program that was shown is read as it -/
theorem read_shown {ds : List PDef} (hd : ds ≠ []) (h : ∀ d ∈ ds, DefR d) : readP (progT ds) = some ds := by
  unfold readP
  rw [prog_lines, feed_eq, split_join, lines_prog h]
  · rfl
  · cases ds with
    | nil => exact absurd rfl hd
    | cons d ds => exact List.cons_ne_nil _ _
  · intro p hp
    obtain ⟨l, hl, hp⟩ := List.mem_flatten.mp hp
    obtain ⟨d, hd', rfl⟩ := List.mem_map.mp hl
    exact def_free (h d hd') p hp
end L2

end
section
set_option Elab.async false
set_option linter.all false
set_option maxRecDepth 100000
set_option maxHeartbeats 4000000
namespace L2
open PySem PySem.Spec PyProof.Rows
/-! ### exceptions of one own class, at C -/
/-- on its way out of the frames that ran above outer: it touched nothing of B -/
noncomputable def Fly (P : Program) (w : World) (C : Addr) : CXT := fun outer H s E e s' =>
  ∃ a H' B t, e = .ref a ∧ s'.os = s.os ∧ AllBare s'.gens ∧ Un (frs outer) [] H H' s.heap s'.heap ∧ HOk P w H' s'.heap ∧ Heap.FlyingW B outer a (.ref C) (.ref t) s'.heap ∧
    (∀ b o, (H' b ≠ none ∨ (s.heap.get? b ≠ none ∧ b ∉ frs outer)) → s'.heap.get? b = some o → B.get? b = some o) ∧ E (.ref C) none H'
section
variable {P : Program} {w : World} {K : PySem.W.Frag} {mg : Str → Option Value} {base : Heap} {C : Addr}
/-- behind a step that kept B -/
theorem _root_.L2.HOk.over {H : Hp} {h h' B : Heap} (ok : HOk P w H h) (kB : ∀ b o, H b ≠ none → h.get? b = some o → B.get? b = some o) (st : B.StaysIn h') : HOk P w H h' := fun b u e =>
  (ok b u e).stay (fun c v hc q => st _ _ (kB c v (by rcases hc with rfl | hc
                                                      · rw [e]; exact fun z => by cases z
                                                      · rw [hc]; exact fun z => by cases z) q)) (fun _ q => q) (fun _ _ q => q)
theorem ObjOk.has {H : Hp} {h : Heap} {a : Addr} {o : HO} (x : ObjOk P w H h a o) : ∃ u, h.get? a = some u := by
  cases o with
  | lst xs => obtain ⟨_, _, _, _, e⟩ := x; exact ⟨_, e⟩
  | tup xs => obtain ⟨_, _, _, ob, e, _⟩ := x; exact ⟨_, e⟩
  | dK kvs => obtain ⟨_, _, _, _, ob, _, _, e, _⟩ := x; exact ⟨_, e⟩
  | dT kvs => obtain ⟨_, _, _, _, ob, _, _, e, _⟩ := x; exact ⟨_, e⟩
  | set S n => obtain ⟨ob, _, _, _, e, _⟩ := x; exact ⟨_, e⟩
  | ins C dx fs => obtain ⟨_, _, _, e, _⟩ := x; exact ⟨_, e⟩
  | own x' => exact x
  | xd fs => obtain ⟨_, ⟨_, _, _, e, _⟩, _⟩ := x; exact ⟨_, e⟩
  | rng lo hi => obtain ⟨_, _, _, e⟩ := x; exact ⟨_, e⟩
  | frz o u => exact ⟨_, x.1⟩
  | tbl ps => exact ⟨_, x⟩
  | met f x' => exact ⟨_, x⟩
  | ext φ => exact x.2.1
section
variable {N : List Str} {qual : Str} {scope : Scope} {f : Addr} {cd : Value} {A : Around} {outer : List Env} {s : Shared} {H : Hp} {E : XK} {pins : List (Addr × Obj)} {σ : St} {H1 : Hp} {s1 : Shared}
/-- behind the frame -/
theorem out_of {h' B : Heap} {a t : Addr} (I : Inv (cxOf (Fly P w C) P w K mg base N qual scope f cd A outer s H E) pins σ H1 s1) (kB : ∀ b o, (H1 b ≠ none ∨ (s.heap.get? b ≠ none ∧ b ∉ frs outer)) → s1.heap.get? b = some o → B.get? b = some o)
    (fl : Heap.FlyingW B outer a (.ref C) (.ref t) h') (up : s1.heap.UpToSlots h') (e : E (.ref C) none H1) : Fly P w C outer H s E (.ref a) { s1 with heap := h' } := by
  have hu : Un (frs outer) [] H H1 s.heap s1.heap := I.base
  have hfr : ∀ b ∈ frs outer, ∃ o, s1.heap.get? b = some o ∧ ∀ vs, o.data ≠ .fields vs := fun b hb => (I.stack.mem (show b ∈ (envOfC qual scope s.heap.objs.size f cd :: outer).filterMap (·.frame) from List.mem_cons_of_mem _ hb)).2
  have old : ∀ b o, s.heap.get? b = some o → ∃ o', s1.heap.get? b = some o' := fun b o hb => hu.there b o hb (by simp)
  refine ⟨a, H1, B, t, rfl, I.os, I.bare, ⟨fun b o hb hn hf hx => ?_, fun b o hb hn hf hx => ?_, hu.free, fun b o hb hx => ?_, hu.tups, hu.frzs, hu.tbls⟩, I.hok.over (fun b o hb => kB b o (.inl hb)) fl.1, fl, fun b o hb e' => ?_, e⟩
  · exact fl.1 b o (kB b o (.inr ⟨(by rw [hb]; exact fun z => (by cases z)), hf⟩) (hu.keep b o hb hn hf hx))
  · obtain ⟨sl, q⟩ := hu.slot b o hb hn hf hx
    obtain ⟨o', q', nf⟩ := hfr b hf
    rw [q] at q'
    cases q'
    obtain ⟨sl2, q2⟩ := up b _ q nf
    exact ⟨sl2, q2⟩
  · obtain ⟨o', q⟩ := old b o hb
    by_cases hf : b ∈ frs outer
    · obtain ⟨o2, q2, nf⟩ := hfr b hf
      obtain ⟨sl, q3⟩ := up b o2 q2 nf
      exact ⟨_, q3⟩
    · exact ⟨o', fl.1 b o' (kB b o' (.inr ⟨(by rw [hb]; exact fun z => (by cases z)), hf⟩) q)⟩
  · have : ∃ o1, s1.heap.get? b = some o1 := by
      rcases hb with hb | ⟨hb, _⟩
      · cases q : H1 b with
        | none => exact absurd q hb
        | some u => exact ObjOk.has (I.hok b u q)
      · cases q : s.heap.get? b with
        | none => exact absurd q hb
        | some u => exact old b u q
    obtain ⟨o1, q1⟩ := this
    have h1 := kB b o1 hb q1
    have h2 := fl.1 b o1 h1
    rw [e'] at h2
    cases h2
    exact h1
theorem own_frame {b : Addr} (h : s.heap.get? b ≠ none) (n : b ∉ frs outer) : b ∉ frs (envOfC qual scope s.heap.objs.size f cd :: outer) := fun m => by
  rcases List.mem_cons.mp (show b ∈ s.heap.objs.size :: frs outer from m) with e | m
  · cases q : s.heap.get? b with
    | none => exact h q
    | some o => exact absurd (Heap.lt_size q) (by rw [e]; exact Nat.lt_irrefl _)
  · exact n m
/-- it is raised here -/
theorem raise_out {h1 : Heap} {e : Addr} {vs : List Value} (I : Inv (cxOf (Fly P w C) P w K mg base N qual scope f cd A outer s H E) pins σ H1 s1) (hx : Heap.MadeExcOf s1.heap h1 e (.ref C) vs) (he : E (.ref C) none H1) :
    (cxOf (Fly P w C) P w K mg base N qual scope f cd A outer s H E).xe (.ref e) { s1 with heap := h1 } := by
  have I2 : Inv (cxOf (Fly P w C) P w K mg base N qual scope f cd A outer s H E) pins σ H1 { s1 with heap := h1 } := I.kept (h' := h1) (t' := s1.toks) hx.keeps
  have hin : ∀ env ∈ (envOfC qual scope s.heap.objs.size f cd :: outer), ∀ b, env.frame = some b → b ∈ frs (envOfC qual scope s.heap.objs.size f cd :: outer) := fun env hm b hb => List.mem_filterMap.mpr ⟨env, hm, hb⟩
  refine wpAny_leaves_madeW (base := PySem.W.hideAll s1.heap (frs (envOfC qual scope s.heap.objs.size f cd :: outer))) (h := s1.heap) I.ok.frames rfl (fun b o q => PySem.W.of_hideAll _ q) (PySem.W.funFrames_hide I.stack hin) hx fun h' t fl _ _ up => ?_
  refine out_of I2 (fun b o hb q => ?_) fl up he
  have q1 : ∃ o1, s1.heap.get? b = some o1 := by
    rcases hb with hb | ⟨hb, _⟩
    · cases z : H1 b with
      | none => exact absurd z hb
      | some u => exact ObjOk.has (I.hok b u z)
    · cases z : s.heap.get? b with
      | none => exact absurd z hb
      | some u => exact I.base.there b u z (show b ∉ ([] : List Addr) by simp)
  obtain ⟨o1, q1⟩ := q1
  have q2 := hx.keeps b o1 q1
  rw [show h1.get? b = some o from q] at q2
  cases q2
  refine PySem.W.hideAll_get _ q1 ?_
  rcases hb with hb | ⟨hb, hn⟩
  · exact fun m => hb (I.stkFree b m)
  · exact own_frame hb hn
/-- a callee's passes through -/
theorem pass_out : Passes (Fly P w C) (cxOf (Fly P w C) P w K mg base N qual scope f cd A outer s H E) E := by
  intro pins σ H1 s1 e s2 I h
  obtain ⟨a, H2, B, t, rfl, os, bare, un, hok, fl, kB, he⟩ := h
  have I2 := I.call' (ch := []) os un hok bare (fun b z => absurd z (by simp))
  refine wpAny_leaves_onW I.ok.frames rfl fl fun h' fl' up => out_of I2 (fun b o hb q => kB b o ?_ q) fl' up he
  rcases hb with hb | ⟨hb, hn⟩
  · exact .inl hb
  · refine .inr ⟨?_, own_frame hb hn⟩
    cases z : s.heap.get? b with
    | none => exact absurd z hb
    | some u =>
      obtain ⟨o', q'⟩ := I.base.there b u z (show b ∉ ([] : List Addr) by simp)
      rw [q']
      exact fun z => by cases z
/-- an own class over ValueError, maybe by way of other own ones -/
noncomputable def bmVE : List Value := [.type "ValueError", .type "Exception", .type "BaseException", .type "object"]
noncomputable def ExcC (K : PySem.W.Frag) (C : Addr) : Prop := PySem.W.excIn K C bmVE "ValueError.__new__" = true
theorem exc_obj {h : Heap} (X : K.In h) (q : ExcC K C) : ∃ Nn nm qn bs bm hdct sn sub ab col dd k0 k1 k2 k3 k5, h.get? C = some (excClassObj nm qn C Nn bs bm hdct sn sub ab col dd k0 k1 k2 k3 k5 "ValueError.__new__") ∧
    h.Ns Nn (h.nsMap Nn) ∧ h.nsMap Nn "__init__" = none ∧ OwnTail h bmVE bm := by
  revert q
  unfold ExcC PySem.W.excIn
  split
  · next dd c9 slots look =>
    split
    · next C' tl s0 s1 s2 s3 nid s5 em es =>
      intro q
      rw [Bool.and_eq_true, Bool.and_eq_true, Bool.and_eq_true, Bool.and_eq_true, Bool.and_eq_true] at q
      obtain ⟨⟨⟨⟨⟨q1, q2⟩, q3⟩, q4⟩, q5⟩, q6⟩ := q
      have q1 := beq_iff_eq.mp q1
      have q2 := beq_iff_eq.mp q2
      subst q1 q2
      cases c9
      dsimp only at em q3 q5 q6
      rw [Bool.not_eq_true'] at q3
      subst em q3
      have : slots = #[s0, s1, s2, s3, some (.builtin "ValueError.__new__"), s5] := Array.toList_inj.mp es
      subst this
      exact ⟨_, _, _, _, tl, _, _, _, _, _, dd, s0, s1, s2, s3, s5, X _ _ look, .of_isNs (PySem.W.isNs_of_in X q5), PySem.W.nsMap_none_of_in X q5 (beq_iff_eq.mp q6), PySem.W.tail_of_in X q4⟩
    · intro q; cases q
  · intro q; cases q
noncomputable def tRaise (E : XK) (C : Addr) (t : TA) : TS := fun _ σ H => t σ H fun vs H1 => vs.length ≤ 1000 ∧ E (.ref C) none H1
theorem ps_raise {x : Str} {np cpos pos : Pos} {e₀ : Expr} {rest : List Expr} {t : TA} (hg : Gl (cxOf (Fly P w C) P w K mg base N qual scope f cd A outer s H E) x) (hm : mg x = some (.ref C)) (XC : ExcC K C) (ha : PA (cxOf (Fly P w C) P w K mg base N qual scope f cd A outer s H E) (e₀ :: rest) t)
    (hst : starEach (e₀ :: rest) (envOfC qual scope s.heap.objs.size f cd) = (false, eval e₀ (envOfC qual scope s.heap.objs.size f cd)) :: starEach rest (envOfC qual scope s.heap.objs.size f cd) := by rfl)
    (hpl : (backTo cpos (starEach rest (envOfC qual scope s.heap.objs.size f cd))).any (·.1) = false := by rfl) (hd : (x == ("__debug__" : Str)) = false := by decide) :
    PS (cxOf (Fly P w C) P w K mg base N qual scope f cd A outer s H E) (.Raise (some (.Call (.Name x np) (e₀ :: rest) [] cpos)) none pos) (tRaise E C t) := by
  intro pins s1 σ H1 D I h
  have kin : K.In base := I.ok.mod.kin
  obtain ⟨Nn, nm, q, bs, bm, hdct, sn, sub, ab, col, dd, k0, k1, k2, k3, k5, hC, hns, hnone, tl⟩ := exc_obj kin XC
  refine wpAny_Raise_call_subU (C := C) (nm := nm) (q := q) (N := Nn) (bs := bs) (bm := bm) (hdct := hdct) (sn := sn) (sub := sub) (ab := ab) (col := col) (dd := dd) (k0 := k0) (k1 := k1) (k2 := k2) (k3 := k3) (k5 := k5) (mN := base.nsMap Nn)
    F.excBase_ValueError (bmB := bmVE) (by decide) F.excBase_ValueError (tl.hasType (by decide)) (I.ok.hd rfl) ?_ hnone (ld_glob I hg hm ⟨rfl, ?_⟩ hd)
  · show (backTo cpos (starEach (e₀ :: rest) (envOfC qual scope s.heap.objs.size f cd))).any (·.1) = false
    rw [hst]
    show (false || (backTo cpos (starEach rest (envOfC qual scope s.heap.objs.size f cd))).any (·.1)) = false
    rw [hpl]
    rfl
  · show wpAny _ _ (evalArgs (.ref C) true (backTo cpos (starEach (e₀ :: rest) (envOfC qual scope s.heap.objs.size f cd))) []) _ _ _
    have h2 := ha cpos pins s1 σ H1 _ I h
    change wpAny _ _ (spliced (backTo cpos (starEach (e₀ :: rest) (envOfC qual scope s.heap.objs.size f cd)))) _ _ _ at h2
    rw [hst] at h2 ⊢
    refine Calls.evalArgs_plain (thn h2 fun us s2 h3 => ?_)
    obtain ⟨vs, H2, I2, rv, hl, he⟩ := h3
    have kb : ∀ b o, base.get? b = some o → s2.heap.get? b = some o := I2.bk
    exact ⟨rfl, by rw [← rv.length]; exact Nat.le_trans hl (by decide), kb _ _ hC, hns.keeps kb, tl.keeps kb, fun h' e hx => raise_out I2 hx he⟩
end
end
end L2

end
section
set_option Elab.async false
set_option linter.all false
set_option maxRecDepth 100000
set_option maxHeartbeats 4000000
namespace L2
open PySem PySem.Spec PyProof.Rows
section
variable {X : Cx} {C : Addr} {pins : List (Addr × Obj)} {σ : St} {H H' : Hp} {s s' : Shared}
/-- behind a callee's exception, and what was done with it since -/
theorem Inv.land {B h2 : Heap} (I : Inv X pins σ H s) (os : s'.os = s.os) (bare : AllBare s'.gens) (un : Un (frs X.stack) [] H H' s.heap s'.heap) (hok : HOk X.prog X.w H' s'.heap)
    (kB : ∀ b o, (H' b ≠ none ∨ (s.heap.get? b ≠ none ∧ b ∉ frs X.stack)) → s'.heap.get? b = some o → B.get? b = some o) (st : B.StaysIn h2) (up : s'.heap.UpToSlots h2) : Inv X pins σ H' { s' with heap := h2 } := by
  have I2 := I.call' (ch := []) os un hok bare (fun b z => absurd z (by simp))
  have hfr : ∀ b ∈ frs X.stack, ∃ o, s'.heap.get? b = some o ∧ ∀ vs, o.data ≠ .fields vs := fun b hb => (I2.stack.mem hb).2
  refine I.call' (s' := { s' with heap := h2 }) (ch := []) os ⟨fun b o hb hn hf hx => ?_, fun b o hb hn hf hx => ?_, un.free, fun b o hb hx => ?_, un.tups, un.frzs, un.tbls⟩ (hok.over (fun b o hb => kB b o (.inl hb)) st) bare (fun b z => absurd z (by simp))
  · exact st b o (kB b o (.inr ⟨(by rw [hb]; exact fun z => (by cases z)), hf⟩) (un.keep b o hb hn hf hx))
  · obtain ⟨sl, q⟩ := un.slot b o hb hn hf hx
    obtain ⟨o', q', nf⟩ := hfr b hf
    rw [q] at q'
    cases q'
    obtain ⟨sl2, q2⟩ := up b _ q nf
    exact ⟨sl2, q2⟩
  · obtain ⟨o', q⟩ := un.there b o hb hx
    by_cases hf : b ∈ frs X.stack
    · obtain ⟨o2, q2, nf⟩ := hfr b hf
      obtain ⟨sl, q3⟩ := up b o2 q2 nf
      exact ⟨_, q3⟩
    · exact ⟨o', st b o' (kB b o' (.inr ⟨(by rw [hb]; exact fun z => (by cases z)), hf⟩) q)⟩
/-- a name that goes -/
theorem Inv.unbound {j t : Nat} {n : Str} {h2 : Heap} {m : Str → Option Value} {v : Option Value} (I : Inv X pins σ H s) (hN : X.N.Nodup) (hj : X.N[j]? = some n) (hn : s.heap.Ns X.env.locals m) (hl : ∀ (i : Nat) (x : Str) (v : V), X.N[i]? = some x → σ[i]? = some (some v) → Vis X.env.scope x → ∃ u, RelV v u ∧ Look X.env s.heap m x u)
    (hn' : h2.Ns X.env.locals (fun x => if x = n then v else m x)) (hs : Heap.SameBut X.env.locals s.heap h2) : Inv X pins (σ.set j none) H { s with heap := h2, toks := t } := by
  obtain ⟨oL, _, _, hoL, _⟩ := id hn
  have cne := I.cne
  have hjσ : j < σ.length := by rw [I.len]; exact (List.getElem?_eq_some_iff.mp hj).1
  have far : ∀ {b : Addr} {o : Obj}, X.s₀.heap.get? b = some o → b ≠ X.env.locals := fun e => Nat.ne_of_lt (Nat.lt_of_lt_of_le (Heap.lt_size e) I.ok.above)
  refine ⟨I.ok, I.os, I.bare, ⟨fun b o e n hb hx => ?_, fun b o e n hb hx => ?_, I.base.free, fun b o e hx => ?_, I.base.tups, I.base.frzs, I.base.tbls⟩, ⟨_, hn', fun i y v' e1 e2 e3 => ?_⟩, fun y c e => ?_, I.free, I.freeC, fun p hp => ?_, fun b ob e => ?_, by simpa using I.len⟩
  · exact (hs.2 b (far e)).trans (I.base.keep b o e n hb hx)
  · obtain ⟨sl, e1⟩ := I.base.slot b o e n hb hx
    exact ⟨sl, (hs.2 b (far e)).trans e1⟩
  · obtain ⟨o', e1⟩ := I.base.there b o e hx
    exact ⟨o', (hs.2 b (far e)).trans e1⟩
  · by_cases hi : i = j
    · subst hi
      rw [List.getElem?_set_self hjσ] at e2
      cases e2
    · rw [List.getElem?_set_ne (Ne.symm hi)] at e2
      obtain ⟨u', r', q⟩ := hl i y v' e1 e2 e3
      refine ⟨u', r', ?_⟩
      rcases q with ⟨k, e⟩ | ⟨k, c, e, z⟩
      · refine .inl ⟨k, ?_⟩
        have : y ≠ n := fun e => hi (nodup_ix hN e1 (e ▸ hj))
        simp [this, e]
      · exact .inr ⟨k, c, e, z.sameBut hs (cne y c e)⟩
  · obtain ⟨w', z⟩ := I.cell y c e
    exact ⟨w', z.sameBut hs (cne y c e)⟩
  · obtain ⟨e, n, ne, nf, d⟩ := I.pin p hp
    exact ⟨(hs.2 p.1 ne).trans e, n, ne, nf, d⟩
  · refine (I.hok b ob e).stay (fun c w' hc q => (hs.2 c ?_).trans q) (fun _ q => q) fun _ _ q => q
    rintro rfl
    rcases hc with rfl | hc
    · rw [I.free] at e; cases e
    · rw [I.free] at hc; cases hc
/-- within the suite of an except: the exception a is held there -/
noncomputable def Cx.held (X : Cx) (a : Addr) (oe : Obj) : Cx := { X with A := X.A.mark (some (.ref a)), calm := false, pn := (a, oe) :: X.pn, xe := fun _ _ => False }
theorem Inv.held {a : Addr} {oe : Obj} (I : Inv X pins σ H s) (e : s.heap.get? a = some oe) (n : H a = none) (nl : a ≠ X.env.locals) (nf : a ∉ X.fs) (nc : ∀ v, oe.data ≠ .cell v) : Inv (X.held a oe) pins σ H s :=
  ⟨⟨I.ok.mod, I.ok.kind, I.ok.glob, I.ok.blt, I.ok.above, I.ok.inj, I.ok.has, I.ok.cab, fun z => (by cases z), I.ok.frames, I.ok.stk, I.ok.exf, I.ok.bs, I.ok.bsz, I.ok.noex, I.ok.exfs, I.ok.funs, I.ok.frf⟩, I.os, I.bare, I.base, I.loc, I.cell, I.free, I.freeC,
    fun p hp => by
      rcases List.mem_cons.mp (show p ∈ (a, oe) :: (X.pn ++ pins) from hp) with rfl | hp
      · exact ⟨e, n, nl, nf, nc⟩
      · exact I.pin p hp, I.hok, I.len⟩
theorem Inv.unheld {a : Addr} {oe : Obj} (ok : X.Ok) (I : Inv (X.held a oe) pins σ H s) : Inv X pins σ H s :=
  ⟨ok, I.os, I.bare, I.base, I.loc, I.cell, I.free, I.freeC, fun p hp => I.pin p (List.mem_cons_of_mem _ hp), I.hok, I.len⟩
/-- try: x = f(..), except L as n: the suite -/
noncomputable def tTryX (i j : Nat) (sp : Sp) (ta : TA) (th : Addr → TS) : TS := fun D σ H => ta σ H fun vs H1 => sp vs H1 (fun v H2 => D.nx (σ.set i (some v)) H2)
  (fun _ _ H2 => ∀ a, H2 a = none → th a { nx := fun σ' H3 => D.nx (σ'.set j none) H3, rt := fun _ _ => False } (σ.set j (some (.ref a))) H2)
theorem ty_exc {M : Model} {h : Heap} {a : Addr} {ob : Obj} {c : Value} (e : h.get? a = some ob) (hc : ob.cls = c) : PySem.W.Looks M h (typeOf (.ref a)) c := by
  subst hc
  exact (PySem.W.Looks.ld e).andThen .now
theorem ps_tryX {i j k : Nat} {f L : Addr} {fd : FuncData} {ps : List Str} {sp : Sp} {fn x lx n : Str} {px p1 p2 p3 np hp pos : Pos} {e1 : Expr} {es : List Expr} {ta : TA} {th : Addr → TS} {b0 : Stmt} {suite : List Stmt}
    (hst : X.stack = X.env :: X.outer) (hfm : X.env.frame = some X.env.locals) (hN : X.N.Nodup) (hi : X.N[i]? = some x) (hx : Loc X.env.scope x) (hf : X.fn x = true ∨ X.env.scope.names.lookup x = some .local) (hj : X.N[j]? = some n) (hjl : X.env.kindOf n = some .local) (hjs : X.env.scope.names.lookup n = some .local)
    (F : FnOk X.prog X.w X.K X.mg X.base (Fly X.prog X.w C) k f fd ps sp) (hr : Room k X.A) (hg : Gl X fn) (hm : X.mg fn = some (.ref f)) (hk : PySem.W.keepIn X.K (.ref f) = true) (hb : Binds X.K fd ps []) (ha : PA X.nox (e1 :: es) ta)
    (hl : Gl X lx) (hlm : X.mg lx = some (.ref L)) (hex : PySem.W.exmOne X.K (.ref C) (.ref L) = some true)
    (hs : ∀ (a : Addr) (oe : Obj), oe.cls = .ref C → (∃ vs, oe.data = .fields vs) → PSs (X.held a oe) (b0 :: suite) (th a))
    (hsw : swapsWith (.Call (.Name fn p1) (e1 :: es) [] p2) (some (.Name x px)) p3.line X.env = pure false := by rfl)
    (hd : (fn == ("__debug__" : Str)) = false := by decide) (hd2 : (lx == ("__debug__" : Str)) = false := by decide) (he : starEach (e1 :: es) X.env = (false, eval e1 X.env) :: starEach es X.env := by rfl) (hpl : (backTo p2 (starEach es X.env)).any (·.1) = false := by rfl) :
    PS X (.Try [.Assign [.Name x px] (.Call (.Name fn p1) (e1 :: es) [] p2) p3] [.ExceptHandler (some (.Name lx np)) (some n) (b0 :: suite) hp] [] [] pos) (tTryX i j sp ta th) := by
  intro pins s σ H D I h
  refine wpAny_Try_except (wpAny_execs_cons (wpAny_Assign_Name (wpAny_Call_Name_kw (ld_glob I hg hm ?_ hd)) hsw))
  refine PySem.W.callWith_K (h₀ := X.base) I.ok.mod.kin hk ?_ he hpl
  refine wpAny_mono (ha p2 pins s σ H _ (I.wish _) h) (fun us s1 q => ?_) (fun _ _ z => False.elim z)
  obtain ⟨vs, H1, I1, rv, q1⟩ := q
  have I1 := I1.unwish
  refine ⟨I1.kIn, ?_⟩
  have hlen : (us ++ []).length = ps.length := by rw [List.append_nil, ← rv.length]; exact F.len _ _ _ _ q1
  have hb1 := hb s1 us I1.kIn hlen
  rw [List.append_nil] at hb1
  refine wpAny_call (codeAny_mono (F.run X.A X.stack s1 H1 ⟨us, []⟩ us vs _ _ hr I1.env0 hb1 rv q1) fun r s2 hq => ?_)
  cases r with
  | ok fl =>
    cases fl with
    | ret u =>
      obtain ⟨v, H2, I2, rv2, q2⟩ := I1.after hq
      exact store_ok I2 hN hi hx rv2 (fun s3 I3 => wpAny_execs_nil (wpAny_execs_nil ⟨_, H2, I3, q2⟩)) hf
    | next => exact False.elim hq
    | brk => exact False.elim hq
    | cont => exact False.elim hq
  | error e =>
    obtain ⟨a, H2, B, t, rfl, os, bare, un, hok, fl, kB, hw⟩ := hq
    rw [hst] at fl
    have hfr : X.A.frames = some (X.env :: X.outer) := by rw [← hst]; exact I.ok.frames
    refine wpAny_looks_onW hfr hfm fl fun h4 held4 up4 => ?_
    refine wpAny_landsW held4 fun h5 fl5 up5 => ?_
    have I5 := I1.land os bare un hok kB fl5.1 (up4.trans up5)
    have hH2 : H2 a = none := by
      cases z : H2 a with
      | none => rfl
      | some u =>
        obtain ⟨o, ho⟩ := ObjOk.has (hok a u z)
        have := kB a o (.inl (by rw [z]; exact fun y => (by cases y))) ho
        rw [fl.2.1] at this
        cases this
    have nfr : ∀ {h6 : Heap} {pn : List (Addr × Obj)} {σ6 : St}, Heap.FlyingW B (X.env :: X.outer) a (.ref C) (.ref t) h6 → a ≠ X.env.locals ∧ a ∉ X.fs := fun {h6 _ _} fl6 => by
      obtain ⟨oe, ws, e1, _, e2, _⟩ := fl6.first
      have : ∀ b ∈ (X.env :: X.outer).filterMap (·.frame), b ≠ a := fun b hb z => by
        obtain ⟨_, o, ho, nf⟩ := fl6.2.2.1.mem hb
        rw [z, e1] at ho
        cases ho
        exact nf ws e2
      constructor
      · exact fun z => this X.env.locals (List.mem_filterMap.mpr ⟨X.env, List.mem_cons_self, hfm⟩) z.symm
      · intro z
        obtain ⟨env, he1, he2⟩ := List.mem_filterMap.mp z
        exact this a (List.mem_filterMap.mpr ⟨env, List.mem_cons_of_mem _ he1, he2⟩) rfl
    obtain ⟨oe5, ws5, e5, c5, d5, _⟩ := fl5.first
    have I5h := I5.held e5 hH2 (nfr (pn := []) (σ6 := []) fl5).1 (nfr (pn := []) (σ6 := []) fl5).2 (fun v z => by rw [d5] at z; cases z)
    refine wpAny_handleBy_cons (codeAny_handlers_test (ld_glob (X := X.held a oe5) I5h hl hlm ?_ hd2)) (by intro q; cases q)
    refine (PySem.W.exm_one I5.kIn (ty_exc e5 c5) hex).at ?_
    refine codeAny_handlers_suite_as ?_
    refine lands_againW fl5 fun h6 fl6 up6 => ?_
    have I6 := I1.land os bare un hok kB fl6.1 ((up4.trans up5).trans up6)
    obtain ⟨oe, ws, e6, c6, d6, _⟩ := fl6.first
    have I6h := I6.held e6 hH2 (nfr (pn := []) (σ6 := []) fl6).1 (nfr (pn := []) (σ6 := []) fl6).2 (fun v z => by rw [d6] at z; cases z)
    refine store_ok (X := X.held a oe) I6h hN hj (.inl hjs) (v := .ref a) rfl (fun s7 I7 => ?_) (.inr hjs)
    refine wpAny_mono (hs a oe c6 ⟨ws, d6⟩ pins s7 _ H2 _ I7 (hw a hH2)) (fun fl s8 q => ?_) (fun _ _ z => False.elim z)
    cases fl with
    | next =>
      obtain ⟨σ', H3, I8, q8⟩ := q
      obtain ⟨m, hnm, hlk⟩ := I8.loc
      refine wpAny_nameGoes_keeps hjl hnm (by rw [I.ok.kind]; rfl) fun h9 v hn9 hs9 => ?_
      exact ⟨σ'.set j none, H3, (Inv.unheld I.ok I8).unbound hN hj hnm hlk hn9 hs9, q8⟩
    | ret u => obtain ⟨_, _, _, _, _, z⟩ := q; exact z.elim
    | brk => obtain ⟨_, _, _, z⟩ := q; exact z.elim
    | cont => obtain ⟨_, _, _, z⟩ := q; exact z.elim
end
end L2

end
section
set_option Elab.async false
set_option linter.all false
set_option maxRecDepth 100000
set_option maxHeartbeats 4000000
namespace L2
open PySem PySem.Spec PyProof.Rows PySem.W PySem.Builtin PySem.Builtin.ObjectAttr PySem.Builtin.Getset_descriptor PySem.Calls
/-- what is asked of the class of an exception that is looked at -/
structure ExcK (K : Frag) (C : Addr) : Prop where
  ga : findIn K (.ref C) "__getattribute__" = some (some (.builtin "BaseException.__getattribute__"))
  gh : findIn K (.ref C) "__getattr__" = some none
  fc : findIn K (.ref C) "__class__" = some (some (.builtin "object.__class__"))
  sg : specialIn K (.builtin "object.__class__") "__get__" = some (some (.builtin "getset_descriptor.__get__"))
  tk : takesIn K (.builtin "object.__class__") = some true
  mo : mroIn K C (.type "object") = some true
  mb : mroIn K C (.type "BaseException") = some true
  kc : kitCls K (.ref C) (.ref C) = some true
section
variable {prog : Program} {w : World} {A : Around} {E : Value → Shared → Prop} {s : Shared} {K : Frag} {a C : Addr} {oe : Obj}
theorem exc_find {M : Model} {h : Heap} (X : K.In h) (k : ExcK K C) : Looks M h (Builtin.ObjectAttr.find (.ref a) (.ref C) "__class__") (.bind (.builtin "getset_descriptor.__get__") (.builtin "object.__class__")) := by
  have q1 := looks_findIn (M := M) X k.fc
  have q2 := looks_specialIn (M := M) X k.sg
  have q3 := looks_takesIn (M := M) X k.tk
  unfold Builtin.ObjectAttr.find
  refine q1.andThen ?_
  refine Looks.andThen (a := some (Value.builtin "getset_descriptor.__get__")) (t := getOf (some (Value.builtin "object.__class__"))) ?_ ?_
  · exact q2
  refine Looks.andThen (a := some (.builtin "getset_descriptor.__get__", .builtin "object.__class__")) ?_ (Looks.tag .now)
  refine q3.andThen ?_
  exact .now
theorem exc_get {tp : Value} {R : Result → Shared → Prop} (X : K.In s.heap) (e : s.heap.get? a = some oe) (c : oe.cls = .ref C) (k : ExcK K C) (h : R (.ok (.ret (.ref C))) s) :
    codeAny (model prog w) A (.call (.builtin "getset_descriptor.__get__") ⟨[.builtin "object.__class__", .ref a, tp], []⟩) R s := by
  obtain ⟨hh, g, dr, t, os⟩ := s
  have q0 := ty_exc (M := model prog w) e c
  have q1 := looks_mroIn (M := model prog w) X k.mo
  refine codeAny_call_builtin KF.slot_gs.plain KF.entry_gs ?_
  refine KF.slot_gs.check _ _ _ _ _ _ _ _ KF.type_class (KF.args_gs _ _ _) ?_
  unfold Builtin.«getset_descriptor.__get__»
  unfold descrGet
  rw [dga_obj]
  refine wpAny_bind (wpAny_pure ?_)
  unfold descrGetter
  unfold descrCheckInstance descrNameAndClass
  unfold isInstance
  simp only [KF.owner_class]
  repeat lk
  refine ⟨Code.quiet_builtin _ (by decide +kernel), ?_⟩
  refine codeAny_builtin KF.entry_class ?_
  unfold Builtin.«object.__class__»
  unfold shownTypeOf
  repeat lk
  exact h
theorem exc_ga {tk : Tok} {Q : Value → Shared → Prop} (X : K.In s.heap) (e : s.heap.get? a = some oe) (c : oe.cls = .ref C) (k : ExcK K C) (h : Q (.ref C) s) :
    wpAny (model prog w) A (call (.builtin "BaseException.__getattribute__") [.ref a, .str "__class__" tk]) Q E s := by
  obtain ⟨hh, g, d, t, os⟩ := s
  have q0 := ty_exc (M := model prog w) e c
  have q1 := looks_mroIn (M := model prog w) X k.mb
  have q2 := exc_find (M := model prog w) (a := a) X k
  have kd : builtinKind "BaseException.__getattribute__" = some .slot := by decide +kernel
  have sd : splitId "BaseException.__getattribute__" = some ("BaseException", "__getattribute__") := by decide +kernel
  refine wpAny_call ?_
  refine codeAny_call_builtin F.attr_ValueError.ga.plain F.entry_bexc_ga ?_
  have hA := F.args_bexc_ga (.ref a) (.str "__class__" tk)
  simp only [checkBuiltinCall, kd, sd]
  refine wpAny_bind ?_
  unfold isInstance
  repeat lk
  show wpAny _ _ (run (.call (.builtin "getset_descriptor.__get__") ⟨[.builtin "object.__class__", .ref a, .ref C], []⟩) none) _ _ _
  refine wpAny_run ?_
  exact exc_get (A := A.in1) X e c k (wpAny_pure (wpAny_pure h))
/-- what its class is told to be -/
theorem exc_class {Q : Option Value → Shared → Prop} (X : K.In s.heap) (e : s.heap.get? a = some oe) (c : oe.cls = .ref C) (k : ExcK K C) (h : Q (some (.ref C)) { s with toks := s.toks + 1 }) :
    wpAny (model prog w) A (getAttr? (.ref a) "__class__") Q E s := by
  obtain ⟨hh, g, d, t, os⟩ := s
  have q0 := ty_exc (M := model prog w) e c
  have q1 := looks_findIn (M := model prog w) X k.ga
  have q2 := looks_findIn (M := model prog w) X k.gh
  unfold getAttr? getAttrBy? getAttrBy
  refine wpAny_bind (wpAny_mkText ?_)
  refine wpAny_bind (wpAny_attempt (wpAny_holding ?_))
  refine wpAny_bind (q0.at ?_)
  refine wpAny_bind (q1.at ?_)
  show wpAny _ _ (getAttrByItsOwn _ _ _ _ _ _) _ _ _
  unfold getAttrByItsOwn hookBefore
  refine wpAny_bind (q2.at ?_)
  refine wpAny_bind (wpAny_attempt (wpAny_holding ?_))
  show wpAny _ _ (boundAndCalled _ _ _) _ _ _
  unfold boundAndCalled
  refine wpAny_bind (wpAny_of_eq (F.attr_ValueError.ga.bind (.ref a)) ?_)
  refine exc_ga (s := ⟨hh, g, d, t + 1, os⟩) X e c k ?_
  exact handed_on rfl (wpAny_pure h)
theorem exc_nest {cl : Value} {b : Bool} {dep : Int} {tk : Tok} {Q : Fin → Shared → Prop} (X : K.In s.heap) (e : s.heap.get? a = some oe) (c : oe.cls = .ref C) (k : ExcK K C) (kc : kitCls K (.ref C) cl = some b) (hb : b = false → (Value.ref C == cl) = false)
    (h : ∀ t', Q (.done (.ret (.bool b))) { s with toks := t' }) : wpAny (model prog w) A (Builtin.«isinstance.nested» ⟨[.ref a, cl, .int dep tk], []⟩) Q E s := by
  obtain ⟨hh, g, d, t, os⟩ := s
  have q0 := ty_exc (M := model prog w) e c
  obtain ⟨q1, q2, q3⟩ := kit_cls (M := model prog w) X kc
  obtain ⟨_, q4, _⟩ := kit_cls (M := model prog w) X k.kc
  have q5 : Looks (model prog w) hh (isInstance (.ref a) cl) b := q0.andThen q3
  unfold Builtin.«isinstance.nested»
  refine wpAny_bind (q0.at ?_)
  by_cases he : (Value.ref C == cl) = true
  · have hbt : b = true := by
      cases b with
      | true => rfl
      | false => rw [hb rfl] at he; cases he
    subst hbt
    rw [if_pos he]
    refine wpAny_bind (wpAny_rule ?_)
    exact wpAny_pure (h t)
  · rw [if_neg he]
    refine wpAny_bind (q1.at ?_)
    rw [if_pos (by decide)]
    k_delta "plainIsInstance"
    refine wpAny_bind (wpAny_bind (q2.at ?_))
    simp only [if_false, Bool.not_true, Bool.false_eq_true]
    refine wpAny_bind (q5.at ?_)
    cases b with
    | true =>
      simp only [if_true]
      exact wpAny_pure (wpAny_pure (h t))
    | false =>
      simp only [if_false, Bool.false_eq_true]
      refine wpAny_bind (exc_class (s := ⟨hh, g, d, t, os⟩) X e c k ?_)
      refine wpAny_bind (q4.at ?_)
      simp only [if_false, Bool.not_true, Bool.false_eq_true]
      refine wpAny_bind (wpAny_rule ?_)
      refine q3.at ?_
      exact wpAny_pure (h (t + 1))
theorem exc_isi {cl : Value} {b : Bool} {Q : Value → Shared → Prop} (X : K.In s.heap) (e : s.heap.get? a = some oe) (c : oe.cls = .ref C) (k : ExcK K C) (kc : kitCls K (.ref C) cl = some b) (hb : b = false → (Value.ref C == cl) = false)
    (h : ∀ t', Q (.bool b) { s with toks := t' }) : wpAny (model prog w) A (call (.builtin "isinstance") [.ref a, cl]) Q E s :=
  call_isinstance_of (exc_nest X e c k kc hb h) (by intro z; cases z)
end
end L2

end
section
set_option Elab.async false
set_option linter.all false
set_option maxRecDepth 100000
set_option maxHeartbeats 4000000
namespace L2
open PySem PySem.Spec PyProof.Rows
/-! ### defs that may raise, by their names -/
noncomputable def spX1 (b : V → Hp → VK → XK → Prop) : Sp := fun vs H Q E => ∃ x, vs = [x] ∧ b x H Q E
noncomputable def spX2 (b : V → V → Hp → VK → XK → Prop) : Sp := fun vs H Q E => ∃ x y, vs = [x, y] ∧ b x y H Q E
theorem useX1 {b : V → Hp → VK → XK → Prop} {x : V} {H : Hp} {Q : VK} {E : XK} (h : b x H Q E) : spX1 b [x] H Q E := ⟨x, rfl, h⟩
theorem useX2 {b : V → V → Hp → VK → XK → Prop} {x y : V} {H : Hp} {Q : VK} {E : XK} (h : b x y H Q E) : spX2 b [x, y] H Q E := ⟨x, y, rfl, h⟩
structure CalleeX (P : Program) (w : World) (K : PySem.W.Frag) (mg : Str → Option Value) (base : Heap) (C : Addr) (x : Str) (k : Nat) (ps : List Str) (sp : Sp) : Prop where
  ex : ∃ f fd, FnOk P w K mg base (Fly P w C) k f fd ps sp ∧ mg x = some (.ref f) ∧ PySem.W.keepIn K (.ref f) = true ∧ Binds K fd ps []
section
variable {P : Program} {w : World} {K : PySem.W.Frag} {mg : Str → Option Value} {base : Heap} {x : Str} {st : Stmt} {ps N : List Str} {sp : Sp} {k : Nat} {C : Addr}
noncomputable def GoalX (P : Program) (w : World) (K : PySem.W.Frag) (mg : Str → Option Value) (base : Heap) (C : Addr) (N : List Str) (x : Str) (st : Stmt) (f : Addr) (cdv : Value) (A : Around) (outer : List Env) (s : Shared) (H : Hp) (vs : List V) (Q : VK) (E : XK) : Prop :=
  ∃ t, PSs (cxOf (Fly P w C) P w K mg base N x (defScope st) f cdv A outer s H E) (defBody st) t ∧ t { nx := fun _ H' => Q .non H', rt := Q } (start N vs) H
theorem TopFn.calleeX (T : TopFn K mg x st ps) (S : FnScope N ps (defScope st)) (len : ∀ vs H Q E, sp vs H Q E → vs.length = ps.length)
    (h : ∀ (f : Addr) (cdv : Value) (A : Around) (outer : List Env) (s : Shared) (H : Hp) (vs : List V) (Q : VK) (E : XK), Room k (A.deeper (envOfC x (defScope st) s.heap.objs.size f cdv)) → sp vs H Q E → GoalX P w K mg base C N x st f cdv A outer s H vs Q E) : CalleeX P w K mg base C x (k + 1) ps sp := by
  obtain ⟨f, fd, F, hm, hb⟩ := T.ex
  refine ⟨f, fd, ?_, hm, F.kp, hb⟩
  obtain ⟨oc, od, kV, doc, pm, an, cdv, ct, osl, rfl, lk, hcd⟩ := F.ex
  exact fn_of lk hcd S len fun A outer s H vs Q E hr hsp => h f cdv A outer s H vs Q E hr hsp
theorem TopFn.okX1 {a1 : Str} {b : V → Hp → VK → XK → Prop} (T : TopFn K mg x st [a1]) (S : FnScope N [a1] (defScope st))
    (h : ∀ (f : Addr) (cdv : Value) (A : Around) (outer : List Env) (s : Shared) (H : Hp) (v1 : V) (Q : VK) (E : XK), Room k (A.deeper (envOfC x (defScope st) s.heap.objs.size f cdv)) → b v1 H Q E → GoalX P w K mg base C N x st f cdv A outer s H [v1] Q E) : CalleeX P w K mg base C x (k + 1) [a1] (spX1 b) :=
  T.calleeX S (fun vs H Q E ⟨_, e, _⟩ => by rw [e]; rfl) fun f cdv A outer s H vs Q E hr hsp => by
    obtain ⟨v1, rfl, hb⟩ := hsp
    exact h f cdv A outer s H v1 Q E hr hb
theorem TopFn.okX2 {a1 a2 : Str} {b : V → V → Hp → VK → XK → Prop} (T : TopFn K mg x st [a1, a2]) (S : FnScope N [a1, a2] (defScope st))
    (h : ∀ (f : Addr) (cdv : Value) (A : Around) (outer : List Env) (s : Shared) (H : Hp) (v1 v2 : V) (Q : VK) (E : XK), Room k (A.deeper (envOfC x (defScope st) s.heap.objs.size f cdv)) → b v1 v2 H Q E → GoalX P w K mg base C N x st f cdv A outer s H [v1, v2] Q E) : CalleeX P w K mg base C x (k + 1) [a1, a2] (spX2 b) :=
  T.calleeX S (fun vs H Q E ⟨_, _, e, _⟩ => by rw [e]; rfl) fun f cdv A outer s H vs Q E hr hsp => by
    obtain ⟨v1, v2, rfl, hb⟩ := hsp
    exact h f cdv A outer s H v1 v2 Q E hr hb
theorem go_bodyX {f : Addr} {cdv : Value} {A : Around} {outer : List Env} {s : Shared} {H : Hp} {vs : List V} {Q : VK} {E : XK} {t : TS} (σ : St) (hσ : start N vs = σ) (h : PSs (cxOf (Fly P w C) P w K mg base N x (defScope st) f cdv A outer s H E) (defBody st) t)
    (q : t { nx := fun _ H' => Q .non H', rt := Q } σ H) : GoalX P w K mg base C N x st f cdv A outer s H vs Q E := ⟨t, h, by rw [hσ]; exact q⟩
theorem rd_raise {E : XK} {t : TA} {D : Ends} {σ : St} {H : Hp} (h : t σ H fun vs H1 => vs.length ≤ 1000 ∧ E (.ref C) none H1) : tRaise E C t D σ H := h
end
/-- within a def that may raise: a call of another such -/
theorem pe_fnX {P : Program} {w : World} {K : PySem.W.Frag} {mg : Str → Option Value} {base : Heap} {C : Addr} {N : List Str} {qual : Str} {scope : Scope} {f : Addr} {cd : Value} {A : Around} {outer : List Env} {s : Shared} {H : Hp} {E : XK} {x : Str} {k : Nat} {ps : List Str} {sp : Sp} {p pos : Pos} {e : Expr} {es : List Expr} {t : TA}
    (Cx : CalleeX P w K mg base C x k ps sp) (hr : Room k (A.deeper (envOfC qual scope s.heap.objs.size f cd))) (hg : Gl (cxOf (Fly P w C) P w K mg base N qual scope f cd A outer s H E) x) (ha : PA (cxOf (Fly P w C) P w K mg base N qual scope f cd A outer s H E) (e :: es) t) (hdb : (x == ("__debug__" : Str)) = false := by decide)
    (he : starEach (e :: es) (cxOf (Fly P w C) P w K mg base N qual scope f cd A outer s H E).env = (false, eval e (cxOf (Fly P w C) P w K mg base N qual scope f cd A outer s H E).env) :: starEach es (cxOf (Fly P w C) P w K mg base N qual scope f cd A outer s H E).env := by rfl)
    (hpl : (backTo pos (starEach es (cxOf (Fly P w C) P w K mg base N qual scope f cd A outer s H E).env)).any (·.1) = false := by rfl) :
    PE (cxOf (Fly P w C) P w K mg base N qual scope f cd A outer s H E) (.Call (.Name x p) (e :: es) [] pos) (tCall sp [] E t) := by
  obtain ⟨f', fd, F, hm, hk, hb⟩ := Cx.ex
  exact pe_call F hr hg hm hk hb .nil pass_out ha hdb he hpl
section
variable {X : Cx} {C : Addr}
/-- try, with the callee by its name -/
theorem ps_tryC {i j k : Nat} {L : Addr} {ps : List Str} {sp : Sp} {fn x lx n : Str} {px p1 p2 p3 np hp pos : Pos} {e1 : Expr} {es : List Expr} {ta : TA} {th : Addr → TS} {b0 : Stmt} {suite : List Stmt}
    (Cc : CalleeX X.prog X.w X.K X.mg X.base C fn k ps sp) (hr : Room k X.A) (hst : X.stack = X.env :: X.outer) (hfm : X.env.frame = some X.env.locals) (hN : X.N.Nodup) (hi : X.N[i]? = some x) (hx : Loc X.env.scope x) (hf : X.fn x = true ∨ X.env.scope.names.lookup x = some .local) (hj : X.N[j]? = some n) (hjl : X.env.kindOf n = some .local) (hjs : X.env.scope.names.lookup n = some .local)
    (hg : Gl X fn) (ha : PA X.nox (e1 :: es) ta) (hl : Gl X lx) (hlm : X.mg lx = some (.ref L)) (hex : PySem.W.exmOne X.K (.ref C) (.ref L) = some true)
    (hs : ∀ (a : Addr) (oe : Obj), oe.cls = .ref C → (∃ vs, oe.data = .fields vs) → PSs (X.held a oe) (b0 :: suite) (th a))
    (hsw : swapsWith (.Call (.Name fn p1) (e1 :: es) [] p2) (some (.Name x px)) p3.line X.env = pure false := by rfl)
    (hd : (fn == ("__debug__" : Str)) = false := by decide) (hd2 : (lx == ("__debug__" : Str)) = false := by decide) (he : starEach (e1 :: es) X.env = (false, eval e1 X.env) :: starEach es X.env := by rfl) (hpl : (backTo p2 (starEach es X.env)).any (·.1) = false := by rfl) :
    PS X (.Try [.Assign [.Name x px] (.Call (.Name fn p1) (e1 :: es) [] p2) p3] [.ExceptHandler (some (.Name lx np)) (some n) (b0 :: suite) hp] [] [] pos) (tTryX i j sp ta th) := by
  obtain ⟨f, fd, F, hm, hk, hb⟩ := Cc.ex
  exact ps_tryX hst hfm hN hi hx hf hj hjl hjs F hr hg hm hk hb ha hl hlm hex hs hsw hd hd2 he hpl
theorem rd_tryX {i j : Nat} {sp : Sp} {ta : TA} {th : Addr → TS} {D : Ends} {σ : St} {H : Hp} (h : ta σ H fun vs H1 => sp vs H1 (fun v H2 => D.nx (σ.set i (some v)) H2)
  (fun _ _ H2 => ∀ a, H2 a = none → th a { nx := fun σ' H3 => D.nx (σ'.set j none) H3, rt := fun _ _ => False } (σ.set j (some (.ref a))) H2)) : tTryX i j sp ta th D σ H := h
/-- isinstance of the exception that is held -/
noncomputable def rIsX (K : PySem.W.Frag) (C a : Addr) : List V → Hp → VK → Prop := fun xs H Q => (∃ L b, xs = [.ref a, .ref L] ∧ PySem.W.kitCls K (.ref C) (.ref L) = some b ∧ (b = false → (Value.ref C == Value.ref L) = false) ∧ Q (.bl b) H) ∨ ∃ T b, xs = [.ref a, .ty T] ∧ PySem.W.kitCls K (.ref C) (.type T) = some b ∧ Q (.bl b) H
theorem call_isiX {a : Addr} {oe : Obj} {K : PySem.W.Frag} (hK : X.K = K) (hc : oe.cls = .ref C) (k : ExcK K C) : CallR (X.held a oe) (.builtin "isinstance") (rIsX K C a) := by
  subst hK
  intro pins s σ H xs us Q I r h
  have hp := I.pin (a, oe) (List.mem_append_left _ (show (a, oe) ∈ (a, oe) :: X.pn from List.mem_cons_self))
  rcases h with ⟨L, b, rfl, kc, hb, q⟩ | ⟨T, b, rfl, kc, q⟩
  · obtain ⟨u, v, rfl, ru, rv⟩ := r.two
    cases ru
    cases rv
    exact exc_isi I.kIn hp.1 hc k kc hb fun t' => ⟨.bl b, H, I.tok _, rfl, q⟩
  · obtain ⟨u, v, rfl, ru, rv⟩ := r.two
    cases ru
    cases rv
    exact exc_isi I.kIn hp.1 hc k kc (fun _ => rfl) fun t' => ⟨.bl b, H, I.tok _, rfl, q⟩
theorem rd_isX {K : PySem.W.Frag} {a L : Addr} {b : Bool} {H : Hp} {Q : VK} (kc : PySem.W.kitCls K (.ref C) (.ref L) = some b) (hb : b = false → (Value.ref C == Value.ref L) = false) (q : Q (.bl b) H) : rIsX K C a [.ref a, .ref L] H Q := .inl ⟨L, b, rfl, kc, hb, q⟩
theorem rd_isXT {K : PySem.W.Frag} {a : Addr} {T : String} {b : Bool} {H : Hp} {Q : VK} (kc : PySem.W.kitCls K (.ref C) (.type T) = some b) (q : Q (.bl b) H) : rIsX K C a [.ref a, .ty T] H Q := .inr ⟨T, b, rfl, kc, q⟩
end
end L2

end
section
set_option Elab.async false
set_option linter.all false
set_option maxRecDepth 100000
set_option maxHeartbeats 4000000
namespace L2
open PySem PySem.Spec PyProof.Rows
/-! ### an exception on its way out of a comprehension -/
section
variable {M : Model} {A : Around} {E : Value → Shared → Prop} {s : Shared}
theorem note_like {e : Value} {env env' : Env} (h : env'.frame = env.frame) : noteFrame e env' = noteFrame e env := by
  unfold noteFrame PySem.frameOf
  rw [h]
theorem frames_less {h B B' : Heap} (k : ∀ b, B.get? b = none → B'.get? b = none) : ∀ {l : List Env}, h.FunFrames B l → h.FunFrames B' l
  | [], _ => trivial
  | _ :: _, ⟨a, ⟨L, o, f1, f2, f3⟩, r⟩ => ⟨a, ⟨L, o, f1, k _ f2, f3⟩, frames_less k r⟩
/-- its place is whatever it was -/
noncomputable def HeldA (B : Heap) (l : List Env) (e : Addr) (cls a0 fl : Value) (h : Heap) : Prop := B.StaysIn h ∧ B.get? e = none ∧ h.FunFrames B l ∧ h.TracedAtW B e cls a0 fl
theorem held_less {B B' h : Heap} {l : List Env} {e : Addr} {cls a0 fl : Value} (x : HeldA B l e cls a0 fl h) (k : ∀ b o, B'.get? b = some o → B.get? b = some o) : HeldA B' l e cls a0 fl h := by
  have kn : ∀ b, B.get? b = none → B'.get? b = none := fun b hb => by
    cases q : B'.get? b with
    | none => rfl
    | some o => rw [k b o q] at hb; cases hb
  obtain ⟨x1, x2, x3, oe, vs, T, oT, ts, q1, q2, q3, q4, q5, q6⟩ := x
  exact ⟨fun b o hb => x1 b o (k b o hb), kn _ x2, frames_less kn x3, oe, vs, T, oT, ts, q1, q2, q3, q4, kn _ q5, q6⟩
/-- a namespace C that B does not hold is written -/
theorem held_but {B h h' : Heap} {l : List Env} {e C : Addr} {cls a0 fl : Value} {m : Str → Option Value} (x : HeldA B l e cls a0 fl h) (hC : B.get? C = none) (hn : h.Ns C m) (hl : C ∉ l.filterMap (·.frame)) (sb : Heap.SameBut C h h') : HeldA B l e cls a0 fl h' := by
  obtain ⟨x1, x2, x3, oe, vs, T, oT, ts, q1, q2, q3, q4, q5, q6, q7, q8, q9⟩ := x
  obtain ⟨oc, es, ep, c1, c2, _⟩ := hn
  have nf : ∀ {b : Addr} {o : Obj} {ws : Array Value}, h.get? b = some o → o.data = .fields ws → b ≠ C := fun {b o ws} u v z => by
    rw [z, c1] at u
    cases u
    rw [c2] at v
    cases v
  refine ⟨fun b o hb => (sb.2 b (fun z => by rw [z, hC] at hb; cases hb)).trans (x1 b o hb), x2, ?_, oe, vs, T, oT, ts, (sb.2 e (nf q1 q3)).trans q1, q2, q3, q4, q5, q6, (sb.2 T (nf q7 q8)).trans q7, q8, q9⟩
  clear q1 q2 q3 q4 q5 q6 q7 q8 q9
  induction l with
  | nil => trivial
  | cons env r ih =>
    obtain ⟨y1, ⟨L, o, y2, y3, y4, y5⟩, y6⟩ := x3
    have hm : L ∈ (env :: r).filterMap (·.frame) := List.mem_filterMap.mpr ⟨env, List.mem_cons_self, y2⟩
    refine ⟨y1, ⟨L, o, y2, y3, (sb.2 L (fun z => hl (z ▸ hm))).trans y4, y5⟩, ih (fun z => hl ?_) y6⟩
    obtain ⟨e1, m1, m2⟩ := List.mem_filterMap.mp z
    exact List.mem_filterMap.mpr ⟨e1, List.mem_cons_of_mem _ m1, m2⟩
/-- it is passed on with any place -/
theorem pass_any {B : Heap} {l : List Env} {e : Addr} {cls a0 fl : Value} {what : String} {cenv : Env} {Q : Value → Shared → Prop} (hh : HeldA B l e cls a0 fl s.heap)
    (hQ : ∀ h' fl', HeldA B l e cls a0 fl' h' → s.heap.UpToSlots h' → E (.ref e) { s with heap := h' }) : wpAny M A (PySem.passOn what (.ref e) cenv : Sem Value) Q E s := by
  obtain ⟨x1, x2, x3, oe, vs, T, oT, ts, q1, q2, q3, q4, q5, q6, q7, q8, q9⟩ := hh
  have hz : 3 < ts.size := (Array.getElem?_eq_some_iff.mp q9).1
  unfold PySem.passOn
  refine wpAny_bind (wpAny_field q1 q3 q4 ?_)
  rw [if_neg (show ¬ (Value.ref T == Value.none) = true by simp)]
  have go : wpAny M A (setFlight (.ref e) cenv.frame) (fun _ s' => wpAny M A (throw (.ref e) : Sem Value) Q E s') E s := by
    unfold setFlight
    refine wpAny_bind (wpAny_field q1 q3 q4 ?_)
    rw [if_pos (show (Value.ref T != Value.none) = true by simp)]
    refine wpAny_setField q7 q8 hz (wpAny_throw (hQ _ (cenv.frame.elim .none fun f => rawInt f) ?_ ?_))
    · have oth : ∀ b, b ≠ T → (s.heap.update T (Obj.mapFields (·.setIfInBounds 3 (cenv.frame.elim Value.none fun f => rawInt f)))).get? b = s.heap.get? b := fun b hb => Heap.get?_update_other _ _ (Ne.symm hb)
      have nT : ∀ b o, s.heap.get? b = some o → (∀ ws, o.data ≠ .fields ws) → b ≠ T := fun b o hb hn z => by
        rw [z, q7] at hb
        cases hb
        exact hn ts q8
      refine ⟨fun b o hb => (oth b (fun z => by rw [z, q5] at hb; cases hb)).trans (x1 b o hb), x2, x3.of_keeps fun b o hb hn => ⟨o, (oth b (nT b o hb hn)).trans hb, rfl⟩,
        oe, vs, T, _, _, (oth e (Ne.symm q6)).trans q1, q2, q3, q4, q5, q6, Heap.get?_update_self _ q7 (Obj.isFreed_of_fields (Obj.data_mapFields q8 _)), Obj.data_mapFields q8 _, by simp [hz]⟩
    · intro b o hb hn
      refine ⟨o.slots, (Heap.get?_update_other _ _ (fun z => ?_)).trans hb⟩
      rw [← z, q7] at hb
      cases hb
      exact hn ts q8
  first
    | exact wpAny_bind (wpAny_pure (wpAny_bind go))
    | exact wpAny_bind go
/-- out of the frame, wherever it was noted -/
theorem leaves_any {B : Heap} {env : Env} {outer : List Env} {L e : Addr} {cls a0 fl : Value} {Q : Unit → Shared → Prop} (hfr : A.frames = some (env :: outer)) (hf : env.frame = some L)
    (hh : HeldA B (env :: outer) e cls a0 fl s.heap) (hQ : ∀ h', Heap.FlyingW B outer e cls a0 h' → s.heap.UpToSlots h' → Q () { s with heap := h' }) : wpAny M A (leaving env (.ref e)) Q E s := by
  by_cases hb : fl = rawInt L
  · subst hb
    unfold leaving
    refine wpAny_bind (wpAny_noteFrame_againW hf hh.2.2.2 ?_)
    refine wpAny_landsW (l := env :: outer) hh fun h' x up => hQ h' ⟨x.1, x.2.1, x.2.2.1.2.2, x.2.2.2⟩ up
  · obtain ⟨x1, x2, x3, oe, vs, T, oT, ts, q1, ⟨q2, q2'⟩, q3, q4, q5, q6, q7, q8, q9⟩ := hh
    subst q2
    unfold leaving noteFrame
    simp only [hf]
    refine wpAny_bind (wpAny_bind (wpAny_field q1 q3 q4 ?_))
    rw [if_pos (show (Value.ref T != Value.none) = true by simp)]
    refine wpAny_bind (wpAny_field q7 q8 q9 ?_)
    rw [if_neg (show ¬ (fl == rawInt L) = true by simpa using hb)]
    refine wpAny_bind (wpAny_setField q7 q8 (Array.getElem?_eq_some_iff.mp q9).1 ?_)
    have oth : ∀ b, b ≠ T → (s.heap.update T (Obj.mapFields (·.setIfInBounds 3 Value.none))).get? b = s.heap.get? b := fun b hb => Heap.get?_update_other _ _ (Ne.symm hb)
    have nT : ∀ b o, s.heap.get? b = some o → (∀ ws, o.data ≠ .fields ws) → b ≠ T := fun b o hb hn z => by
      rw [z, q7] at hb
      cases hb
      exact hn ts q8
    refine wpAny_newEntryW hfr (x3.of_keeps fun b o hb hn => ⟨o, (oth b (nT b o hb hn)).trans hb, rfl⟩) hf ((oth e (Ne.symm q6)).trans q1) (fun b o hb => (oth b (fun z => by rw [z, q5] at hb; cases hb)).trans (x1 b o hb)) x2 q3
      (Array.getElem?_eq_some_iff.mp q4).1 q2' fun h' ⟨y1, y2, y3, y4⟩ => hQ h' ⟨y1, x2, y2.2.2, y3⟩ fun b o hb hn => y4 b o ((oth b (nT b o hb hn)).trans hb) hn
end
section
variable {P : Program} {w : World} {K : PySem.W.Frag} {mg : Str → Option Value} {base : Heap} {C : Addr} {N : List Str} {qual : Str} {scope : Scope} {f : Addr} {cd : Value} {A : Around} {outer : List Env} {s : Shared} {H : Hp} {E : XK}
/-- a callee's passes through a comprehension -/
theorem pass_bk {LN FN : List Str} {sc : Scope} {cl : List (Str × Addr)} {D : Addr} {fp : List Addr} {pins : List (Addr × Obj)} {s2 : Shared} {H2 : Hp} (hin : BkIn (cxOf (Fly P w C) P w K mg base N qual scope f cd A outer s H E) D fp pins s2 H2) :
    Passes (Fly P w C) (bkX (cxOf (Fly P w C) P w K mg base N qual scope f cd A outer s H E) LN FN sc cl D fp pins s2 H2) E := by
  intro pl σ1 H1 s1 e s3 I h
  obtain ⟨a, H3, B, t, rfl, os, bare, un, hok, fl, kB, he⟩ := h
  obtain ⟨⟨σ0, I0⟩, f2, hC⟩ := hin
  have I := I.unwish
  show wpAny _ _ (noteFrame (.ref a) (compEnvC sc cl D (envOfC qual scope s.heap.objs.size f cd))) _ _ s3
  rw [note_like (env := envOfC qual scope s.heap.objs.size f cd) (env' := compEnvC sc cl D (envOfC qual scope s.heap.objs.size f cd)) rfl]
  refine wpAny_looks_onW I0.ok.frames rfl fl fun h4 held4 up4 => ?_
  have I4b := I.land os bare un hok kB held4.1 up4
  have I4 := I0.call' (s' := { s3 with heap := h4 }) (ch := fp) I4b.os I4b.base I4b.hok I4b.bare fun b hb => by
    obtain ⟨_, n1, n2, n3, n4, n5⟩ := f2 b hb
    exact ⟨n3, n1, n4, n5⟩
  have nD : H3 D = none := I4b.free
  have fD := I0.fpOk (H' := H3) hC nD
  obtain ⟨m, hn, _⟩ := I4b.loc
  refine ⟨m, hn, fun h5 sb cenv _ => ?_⟩
  have hn : h4.Ns D m := hn
  have hd5 := held_but (held_less held4 (fun b o (q : (B.hide D).get? b = some o) => Heap.of_hide q)) (Heap.hide_self B D) hn (fun z => (List.mem_cons.mp (I0.stkSub D z)).elim fD.2.1 fD.2.2.1) sb
  have I5 := I4.turned (h' := h5) (t' := s3.toks) (fun b o hb e => (sb.2 b hb).trans e) nD fD.2.1 fD.2.2.2.1 fD.2.2.2.2.1 fD.2.2.2.2.2
  refine pass_any (s := { s3 with heap := h5 }) hd5 fun h6 fl6 hd6 up6 => ?_
  refine leaves_any (s := { s3 with heap := h6 }) I0.ok.frames rfl hd6 fun h7 fl7 up7 => ?_
  refine (fun r => r : Fly P w C outer H s E (.ref a) { s3 with heap := h7 } → Fly P w C outer H s E (.ref a) { s3 with heap := h7 }) ?_
  refine out_of (s1 := { s3 with heap := h5 }) I5 (fun b o hb q => ?_) fl7 (up6.trans up7) he
  have lt : ∀ {b : Addr}, s.heap.get? b ≠ none → b < s.heap.objs.size := fun {b} hb => by
    cases z : s.heap.get? b with
    | none => exact absurd z hb
    | some u => exact Heap.lt_size z
  have nbD : b ≠ D := by
    rintro rfl
    rcases hb with hb | ⟨hb, _⟩
    · exact hb nD
    · exact absurd (lt hb) (Nat.not_lt.mpr (Nat.le_trans I0.sz hC))
  rw [Heap.hide_ne _ nbD]
  have q4 : h4.get? b = some o := (sb.2 b nbD).symm.trans q
  have hb' : H3 b ≠ none ∨ (s1.heap.get? b ≠ none ∧ b ∉ frs (envOfC qual scope s.heap.objs.size f cd :: outer)) := by
    rcases hb with hb | ⟨hb, hn⟩
    · exact .inl hb
    · refine .inr ⟨?_, own_frame hb hn⟩
      cases z : s.heap.get? b with
      | none => exact absurd z hb
      | some u =>
        obtain ⟨o1, z1⟩ := I0.base.there b u z (show b ∉ ([] : List Addr) by simp)
        obtain ⟨o2, z2⟩ := I.base.there b o1 z1 (fun hm => by
          rcases (f2 b hm).2.2.2.1 with z' | z'
          · exact absurd z' (show b ∉ ([] : List Addr) by simp)
          · exact absurd (lt hb) (Nat.not_lt.mpr z'))
        rw [z2]
        exact fun z => by cases z
  have h3 : ∃ o3, s3.heap.get? b = some o3 := by
    rcases hb' with hb | ⟨hb, _⟩
    · cases z : H3 b with
      | none => exact absurd z hb
      | some u => exact ObjOk.has (hok b u z)
    · cases z : s1.heap.get? b with
      | none => exact absurd z hb
      | some u => exact un.there b u z (by simp)
  obtain ⟨o3, z3⟩ := h3
  have h1 := kB b o3 hb' z3
  have h2 := held4.1 b o3 h1
  rw [q4] at h2
  cases h2
  exact h1
end
end L2

end
section
set_option Elab.async false
set_option linter.all false
set_option maxRecDepth 100000
set_option maxHeartbeats 4000000
namespace L2
open PySem PySem.Spec PyProof.Rows
/-! ### a comprehension whose items may raise -/
section
variable {X : Cx} {tg elt iter : Expr} {ifs : List Expr} {sc : Scope} {pos : Pos} {LN FN : List Str} {fr : List Nat} {wi : TI} {g : TG} {tt : TT} {te : TE}

/-- name = [elt for tg in iter if ..], the store ahead of the block's end -/
theorem ps_setcX {i : Nat} {x : Str} {pos' pos2 : Pos} (hc : X.calm = true) (hN : X.N.Nodup) (hix : X.N[i]? = some x) (hx : X.env.scope.names.lookup x = some .local) (S : BkScope X.N sc X.env.scope LN FN fr) (hi : PI X tg iter wi)
    (hg : ∀ cl C fp pins s H, PG (bkCx X LN FN sc cl C fp pins s H) tg g) (ht : ∀ cl C fp pins s H, PTs (bkCx X LN FN sc cl C fp pins s H) ifs tt) (he : ∀ cl C fp pins s H, BkIn X C fp pins s H → PE (bkX X LN FN sc cl C fp pins s H) elt te)
    (hsw : swapsWith (.ListComp elt [⟨tg, iter, ifs, 0⟩] sc pos) (some (.Name x pos')) pos2.line X.env = pure true := by rfl)
    (hs : ∀ x, foldedSetIterable iter X.env x = pure x := by intro _; rfl) : PS X (.Assign [.Name x pos'] (.ListComp elt [⟨tg, iter, ifs, 0⟩] sc pos) pos2) (tAsg (tComp LN fr wi g tt te) (gName i)) := by
  intro pins s σ H D0 I h
  rw [exec_Assign_Name_used _ _ _ _ hsw]
  refine wpAny_bind (wpAny_standAt (wpAny_bind ?_))
  show wpAny _ X.A (do let _ ← comprehension (.ListComp elt [⟨tg, iter, ifs, 0⟩] sc pos) sc X.env _ (newList []) false (eval iter X.env) (some (assign (.Name x pos') X.env))) _ _ s
  obtain ⟨cl, ecl, h1, h2⟩ := closure_of (scope := sc) (env := X.env) fun y hy hk => I.ok.has y.1 (S.free y hy hk)
  refine wpAny_bind (wpAny_mono (wpAny_comprehension_free (use := some (assign (.Name x pos') X.env)) (Q := fun _ s' => SP X pins D0 .next s') rfl hs ecl S.kind S.names (thn (hi pins s σ H _ I h) fun v s1 q1 => thn q1 fun itv s2 q2 => ?_))
    (fun _ s' hq => wpAny_pure (wpAny_pure hq)) fun _ _ e => e)
  obtain ⟨it, fp, tn, J, H2, e, I2, T, st2, f2, W, ⟨m0, w0⟩, turn⟩ := q2
  subst e
  refine bk_runX (R := fun acc C => compPost (model X.prog X.w) X.A X.xe (some (assign (.Name x pos') X.env)) (fun _ s' => SP X pins D0 .next s') acc C) hc S hg ht he h1 h2 I2 T st2 f2 w0 turn (fun D C s' H' ys m hn J fC q => ?_) (fun _ _ _ _ z => z)
  show wpAny _ X.A (assign (.Name x pos') X.env (.ref D)) _ _ s'
  refine wpAny_assign_Name (store_ok2 J hN hix (.inl hx) (show RelV (.ref D) (.ref D) from rfl) (fun s'' J2 ⟨a, sb2, ha⟩ => ?_) (.inr hx))
  have nCa : C ≠ a := by
    rcases ha with z | z
    · rw [z]; exact fC.2.1
    · exact fun q => fC.2.2.2.2.1 x a z q.symm
  refine ⟨m, hn.sameBut sb2 nCa, fun h' sb => ⟨_, _, J2.turned (t' := s''.toks) (fun b o hb e => (sb.2 b hb).trans e) fC.1 fC.2.1 fC.2.2.2.1 fC.2.2.2.2.1 fC.2.2.2.2.2, q⟩⟩
end
/-- in the block of a comprehension: a call of a def that may raise -/
theorem pe_fnXb {P : Program} {w : World} {K : PySem.W.Frag} {mg : Str → Option Value} {base : Heap} {C : Addr} {N : List Str} {qual : Str} {scope : Scope} {f : Addr} {cd : Value} {A : Around} {outer : List Env} {s : Shared} {H : Hp} {E : XK} {x : Str} {k : Nat} {ps : List Str} {sp : Sp} {p pos : Pos} {e : Expr} {es : List Expr} {t : TA}
    {LN FN : List Str} {sc : Scope} {cl : List (Str × Addr)} {D : Addr} {fp : List Addr} {pins : List (Addr × Obj)} {s2 : Shared} {H2 : Hp} (hin : BkIn (cxOf (Fly P w C) P w K mg base N qual scope f cd A outer s H E) D fp pins s2 H2)
    (Cx : CalleeX P w K mg base C x k ps sp) (hr : Room k (A.deeper (envOfC qual scope s.heap.objs.size f cd))) (hg : Gl (bkX (cxOf (Fly P w C) P w K mg base N qual scope f cd A outer s H E) LN FN sc cl D fp pins s2 H2) x) (ha : PA (bkX (cxOf (Fly P w C) P w K mg base N qual scope f cd A outer s H E) LN FN sc cl D fp pins s2 H2) (e :: es) t) (hdb : (x == ("__debug__" : Str)) = false := by decide)
    (he : starEach (e :: es) (bkX (cxOf (Fly P w C) P w K mg base N qual scope f cd A outer s H E) LN FN sc cl D fp pins s2 H2).env = (false, eval e (bkX (cxOf (Fly P w C) P w K mg base N qual scope f cd A outer s H E) LN FN sc cl D fp pins s2 H2).env) :: starEach es (bkX (cxOf (Fly P w C) P w K mg base N qual scope f cd A outer s H E) LN FN sc cl D fp pins s2 H2).env := by rfl)
    (hpl : (backTo pos (starEach es (bkX (cxOf (Fly P w C) P w K mg base N qual scope f cd A outer s H E) LN FN sc cl D fp pins s2 H2).env)).any (·.1) = false := by rfl) :
    PE (bkX (cxOf (Fly P w C) P w K mg base N qual scope f cd A outer s H E) LN FN sc cl D fp pins s2 H2) (.Call (.Name x p) (e :: es) [] pos) (tCall sp [] E t) := by
  obtain ⟨f', fd, F, hm, hk, hb⟩ := Cx.ex
  exact pe_call F hr hg hm hk hb .nil (pass_bk hin) ha hdb he hpl
end L2

end
section
set_option Elab.async false
set_option linter.all false
set_option maxRecDepth 100000
set_option maxHeartbeats 4000000
namespace L2
open PySem PySem.Spec PyProof.Rows PySem.Builtin PySem.Builtin.Str PySem.NumText
section
variable {X : Cx}
end
/-! ### texts of ascii signs -/
noncomputable def isAsc (z : Str) : Prop := z.cps.all (· < 128) = true
theorem asc_mem {z : Str} : isAsc z ↔ ∀ c ∈ cs z, c < 128 := by
  unfold isAsc
  rw [← Array.all_toList, List.all_eq_true]
  simp
theorem asc_app {x y : Str} (h1 : isAsc x) (h2 : isAsc y) : isAsc (x ++ y) := asc_mem.mpr fun c hc => by
  rw [cs_app] at hc
  rcases List.mem_append.mp hc with z | z
  · exact asc_mem.mp h1 c z
  · exact asc_mem.mp h2 c z
theorem slice_mem {z : Str} {l u : Option Int} : ∀ c ∈ cs (Txt.slice z l u), c ∈ cs z := by
  intro c hc
  unfold Txt.slice at hc
  split at hc
  · exact hc
  · obtain ⟨i, _, e⟩ := List.mem_filterMap.mp (show c ∈ List.filterMap _ _ from hc)
    exact Array.mem_toList_iff.mpr (Array.mem_of_getElem? e)
theorem asc_slice {z : Str} {l u : Option Int} (h : isAsc z) : isAsc (Txt.slice z l u) := asc_mem.mpr fun c hc => asc_mem.mp h c (slice_mem c hc)
theorem rep_list (a : Array Nat) : ∀ (k : Nat) (acc : Array Nat), ((List.replicate k a).foldl (· ++ ·) acc).toList = acc.toList ++ (List.replicate k a.toList).flatten
  | 0, acc => by simp
  | k + 1, acc => by
    rw [List.replicate_succ, List.foldl_cons, rep_list a k (acc ++ a), List.replicate_succ, List.flatten_cons]
    simp
theorem rep_flat_len (l : List Nat) : ∀ k, ((List.replicate k l).flatten).length = k * l.length
  | 0 => by simp
  | k + 1 => by
    rw [List.replicate_succ, List.flatten_cons, List.length_append, rep_flat_len l k, Nat.succ_mul]
    omega
theorem rep_cs (z : Str) (n : Int) : (∀ c ∈ cs (repS z n), c ∈ cs z) ∧ (repS z n).length ≤ n.toNat * z.length := by
  unfold repS
  split
  · exact ⟨fun c hc => (by cases hc), Nat.zero_le _⟩
  · next h1 =>
    split
    · refine ⟨fun c hc => hc, ?_⟩
      have : 1 ≤ n.toNat := by omega
      calc z.length = 1 * z.length := (Nat.one_mul _).symm
        _ ≤ n.toNat * z.length := Nat.mul_le_mul_right _ this
    · have e : cs (⟨(List.replicate n.toNat z.cps).foldl (· ++ ·) #[]⟩ : Str) = (List.replicate n.toNat (cs z)).flatten := by
        show ((List.replicate n.toNat z.cps).foldl (· ++ ·) #[]).toList = _
        rw [rep_list]
        simp
      refine ⟨fun c hc => ?_, ?_⟩
      · rw [e] at hc
        obtain ⟨l, hl, hc⟩ := List.mem_flatten.mp hc
        rw [(List.mem_replicate.mp hl).2] at hc
        exact hc
      · rw [← cs_len, e, rep_flat_len, cs_len]
        exact Nat.le_refl _
theorem asc_rep {z : Str} {n : Int} (h : isAsc z) : isAsc (repS z n) := asc_mem.mpr fun c hc => asc_mem.mp h c ((rep_cs z n).1 c hc)
theorem rd_repS {z : Str} {n : Int} {H : Hp} {Q : VK} (h1 : -1000 ≤ n) (h2 : n ≤ 1000) (h3 : z.length ≤ 1000) (q : (repS z n).length ≤ n.toNat * z.length → Q (.str (repS z n)) H) : rRepS (.str z) (.int n) H Q := by
  have h4 := (rep_cs z n).2
  refine ⟨z, n, rfl, rfl, h1, h2, h3, ?_, q h4⟩
  have h5 : n.toNat * z.length ≤ 1000 * 1000 := Nat.mul_le_mul (by omega) h3
  rw [PySem.sizeLine_eq]
  omega
theorem asc_join {s : Str} (hs : isAsc s) : ∀ {zs : List Str}, (∀ z ∈ zs, isAsc z) → isAsc (Str.join s zs)
  | [], _ => asc_mem.mpr fun c hc => (by cases hc)
  | [x], h => h x List.mem_cons_self
  | x :: y :: r, h => by
    show isAsc (x ++ s ++ Str.join s (y :: r))
    exact asc_app (asc_app (h x List.mem_cons_self) hs) (asc_join hs fun z hz => h z (List.mem_cons_of_mem _ hz))
theorem ix_to {a : Int} {n : Nat} (h : 0 ≤ a) : (strSliceIndices none (some a) 1 n).length ≤ a.toNat := by
  unfold strSliceIndices sliceRange
  simp only [show (1 : Int) > 0 by decide, if_true, List.length_map, List.length_range]
  split <;> (try split) <;> (try split) <;> (try simp only [Int.ediv_one]) <;> omega
theorem ix_from {a : Int} {n : Nat} (h : 0 ≤ a) : (strSliceIndices (some a) none 1 n).length ≤ n - a.toNat := by
  unfold strSliceIndices sliceRange
  simp only [show (1 : Int) > 0 by decide, if_true, List.length_map, List.length_range]
  split <;> (try split) <;> (try split) <;> (try simp only [Int.ediv_one]) <;> omega
theorem sl_len {z : Str} {l u : Option Int} {k : Nat} (h : (strSliceIndices l u 1 z.length).length ≤ k) : (Txt.slice z l u).length ≤ k := by
  unfold Txt.slice
  split
  · next e =>
    have : (strSliceIndices l u 1 z.length).length = z.length := by simpa using e
    omega
  · show (List.filterMap _ (strSliceIndices l u 1 z.length)).toArray.size ≤ k
    rw [List.size_toArray]
    exact Nat.le_trans (List.length_filterMap_le _ _) h
theorem rd_slTo {z : Str} {a : Int} {H : Hp} {Q : VK} (h : z.length ≤ 1000000) (ha : 0 ≤ a) (q : (Txt.slice z none (some a)).length ≤ a.toNat → Q (.str (Txt.slice z none (some a))) H) : rSlS (.str z) none (some a) H Q :=
  ⟨z, rfl, by rw [PySem.sizeLine_eq]; omega, q (sl_len (ix_to ha))⟩
theorem rd_slFrom {z : Str} {a : Int} {H : Hp} {Q : VK} (h : z.length ≤ 1000000) (ha : 0 ≤ a) (q : (Txt.slice z (some a) none).length ≤ z.length - a.toNat → Q (.str (Txt.slice z (some a) none)) H) : rSlS (.str z) (some a) none H Q :=
  ⟨z, rfl, by rw [PySem.sizeLine_eq]; omega, q (sl_len (ix_from ha))⟩
end L2

end
section
set_option Elab.async false
set_option linter.all false
set_option maxRecDepth 100000
set_option maxHeartbeats 4000000
namespace L3
open PySem Builtin Builtin.Str
/-! ### zip of two tuples -/
section
variable {prog : Program} {w : World} {A : Around} {E : Value → Shared → Prop} {s : Shared}
end
end L3

end
section
set_option Elab.async false
set_option linter.all false
set_option maxRecDepth 100000
set_option maxHeartbeats 4000000
namespace L2
open PySem PySem.Spec PyProof.Rows
/-! ### for and comprehensions over zip of two tuples -/
section
variable {X : Cx} {tg : Expr}
end
end L2

end
section
set_option Elab.async false
set_option linter.all false
set_option maxRecDepth 100000
set_option maxHeartbeats 4000000
namespace L2
open PySem PySem.Spec PyProof.Rows
section
variable {X : Cx} {pos : Pos}
end
end L2

end
section
set_option Elab.async false
set_option linter.all false
set_option maxRecDepth 100000
set_option maxHeartbeats 4000000
namespace L2
open PySem PySem.Spec PyProof.Rows
section
variable {X : Cx} {pos : Pos} {es : List Expr} {te : TE} {t : TA}
theorem pa_consL {l : List Expr} (ha : PE X (.List l pos) te) (hr : PA X es t) : PA X (.List l pos :: es) (tCons te t) := pa_cons ha hr rfl
theorem pa_consT {l : List Expr} {k : Nat} (ha : PE X (.Tuple l k pos) te) (hr : PA X es t) : PA X (.Tuple l k pos :: es) (tCons te t) := pa_cons ha hr rfl
theorem pa_consB {a b : Expr} {op : Operator} (ha : PE X (.BinOp a op b pos) te) (hr : PA X es t) : PA X (.BinOp a op b pos :: es) (tCons te t) := pa_cons ha hr rfl
theorem pa_consC {f : Expr} {as : List Expr} {ks} (ha : PE X (.Call f as ks pos) te) (hr : PA X es t) : PA X (.Call f as ks pos :: es) (tCons te t) := pa_cons ha hr rfl
theorem pa_consM {e : Expr} {gs} {sc} (ha : PE X (.ListComp e gs sc pos) te) (hr : PA X es t) : PA X (.ListComp e gs sc pos :: es) (tCons te t) := pa_cons ha hr rfl
theorem pa_consS {a b : Expr} (ha : PE X (.Subscript a b pos) te) (hr : PA X es t) : PA X (.Subscript a b pos :: es) (tCons te t) := pa_cons ha hr rfl
theorem pa_consN {x : Str} (ha : PE X (.Name x pos) te) (hr : PA X es t) : PA X (.Name x pos :: es) (tCons te t) := pa_cons ha hr rfl
theorem pa_consK {c : Const} {k : Nat} (ha : PE X (.Constant c k pos) te) (hr : PA X es t) : PA X (.Constant c k pos :: es) (tCons te t) := pa_cons ha hr rfl
theorem pa_consO {o : BoolOp} {cs : List Expr} (ha : PE X (.BoolOp o cs pos) te) (hr : PA X es t) : PA X (.BoolOp o cs pos :: es) (tCons te t) := pa_cons ha hr rfl
theorem ps_setL {l : List Expr} {p : Pos} {i : Nat} {x : Str} {pos' : Pos} (hN : X.N.Nodup) (hi : X.N[i]? = some x) (hx : Loc X.env.scope x) (he : PE X (.List l p) te) (hf : X.fn x = true ∨ X.env.scope.names.lookup x = some .local := by first | exact .inl rfl | exact .inr rfl | assumption) : PS X (.Assign [.Name x pos'] (.List l p) pos) (tAsg te (gName i)) := ps_set hN hi hx he rfl hf
theorem ps_setT {l : List Expr} {k : Nat} {p : Pos} {i : Nat} {x : Str} {pos' : Pos} (hN : X.N.Nodup) (hi : X.N[i]? = some x) (hx : Loc X.env.scope x) (he : PE X (.Tuple l k p) te) (hf : X.fn x = true ∨ X.env.scope.names.lookup x = some .local := by first | exact .inl rfl | exact .inr rfl | assumption) : PS X (.Assign [.Name x pos'] (.Tuple l k p) pos) (tAsg te (gName i)) := ps_set hN hi hx he rfl hf
theorem ps_setB {a b : Expr} {op : Operator} {p : Pos} {i : Nat} {x : Str} {pos' : Pos} (hN : X.N.Nodup) (hi : X.N[i]? = some x) (hx : Loc X.env.scope x) (he : PE X (.BinOp a op b p) te) (hf : X.fn x = true ∨ X.env.scope.names.lookup x = some .local := by first | exact .inl rfl | exact .inr rfl | assumption) : PS X (.Assign [.Name x pos'] (.BinOp a op b p) pos) (tAsg te (gName i)) := ps_set hN hi hx he rfl hf
theorem ps_setC {f : Expr} {as : List Expr} {ks} {p : Pos} {i : Nat} {x : Str} {pos' : Pos} (hN : X.N.Nodup) (hi : X.N[i]? = some x) (hx : Loc X.env.scope x) (he : PE X (.Call f as ks p) te) (hf : X.fn x = true ∨ X.env.scope.names.lookup x = some .local := by first | exact .inl rfl | exact .inr rfl | assumption) : PS X (.Assign [.Name x pos'] (.Call f as ks p) pos) (tAsg te (gName i)) := ps_set hN hi hx he rfl hf
theorem ps_setS {a b : Expr} {p : Pos} {i : Nat} {x : Str} {pos' : Pos} (hN : X.N.Nodup) (hi : X.N[i]? = some x) (hx : Loc X.env.scope x) (he : PE X (.Subscript a b p) te) (hf : X.fn x = true ∨ X.env.scope.names.lookup x = some .local := by first | exact .inl rfl | exact .inr rfl | assumption) : PS X (.Assign [.Name x pos'] (.Subscript a b p) pos) (tAsg te (gName i)) := ps_set hN hi hx he rfl hf
end
end L2

end
section
set_option Elab.async false
set_option linter.all false
set_option maxRecDepth 100000
set_option maxHeartbeats 4000000
namespace HT
open PySem PySem.Spec PyProof.Rows L2
end HT
namespace L2
open PySem PySem.Spec PyProof.Rows
end L2

end
section
set_option Elab.async false
set_option linter.all false
set_option maxRecDepth 100000
set_option maxHeartbeats 4000000
namespace L2
open PySem PySem.Spec PyProof.Rows
end L2

end
section
open PySem L2
local macro_rules | `(tactic| walk_at "rd1") => `(tactic| (first | ((with_reducible refine' rd_var ?e ?_); (case e => exact rfl)) | with_reducible refine rd_c ?_ | with_reducible refine rd_op ?_ | with_reducible refine rd_un ?_ | with_reducible refine rd_seq ?_ | with_reducible refine rd_asg ?_ | with_reducible refine rd_gname ?_ | with_reducible refine rd_ret ?_ | with_reducible refine rd_drop ?_ | with_reducible refine rd_next ?_ | with_reducible refine rd_if ?_ | with_reducible refine rd_test ?_ | with_reducible refine rd_tb ?_ | with_reducible refine rd_and ?_ | with_reducible refine rd_or ?_ | with_reducible refine rd_not ?_ | with_reducible refine rd_true ?_ | with_reducible refine rd_andV ?_ | with_reducible refine rd_orV ?_ | with_reducible refine rd_notV ?_ | with_reducible refine rd_ifE ?_ | with_reducible refine rd_chain ?_ | with_reducible refine rd_nil ?_ | with_reducible refine rd_cons ?_ | with_reducible refine rd_cb ?_ | with_reducible refine rd_call ?_ | with_reducible refine rd_I0 ?_ | with_reducible refine rd_U ?_ | with_reducible refine rd_eqI ?_ | with_reducible refine rd_neI ?_ | with_reducible refine rd_eqS ?_ | with_reducible refine rd_neS ?_ | with_reducible refine rd_eqB ?_ | with_reducible refine rd_neB ?_ | with_reducible refine rd_bl ?_ | with_reducible refine rd_int ?_ | with_reducible refine rd_tup ?_ | with_reducible refine rd_lst ?_ | with_reducible refine rd_gsub ?_ | with_reducible refine rd_slice ?_ | with_reducible refine rd_nopart ?_ | with_reducible refine rd_part ?_ | with_reducible refine rd_bm ?_ | with_reducible refine rd_bm0 ?_ | with_reducible refine rd_comp ?_ | with_reducible refine rd_itup ?_ | with_reducible refine rd_ilist ?_ | with_reducible refine rd_irng ?_ | with_reducible refine rd_gcons ?_ | with_reducible refine rd_gnil ?_ | with_reducible refine rd_for ?_ | with_reducible refine rd_abs ?_ | with_reducible refine rd_max ?_ | with_reducible refine rd_min ?_ | with_reducible refine rd_intB ?_ | with_reducible refine rd_dput ?_ | with_reducible refine rd_dget2 ?_ | with_reducible refine rd_dget ?_ | with_reducible refine rd_fld ?_ | with_reducible refine rd_sfld ?_ | with_reducible refine rd_meth ?_ | with_reducible refine rd_make ?_ | with_reducible refine rd_isN ?_ | with_reducible refine rd_notN ?_ | with_reducible refine rd_izip ?_ | with_reducible refine rd_izipT ?_ | with_reducible refine rd_pcons ?_ | with_reducible refine rd_pnil ?_ | with_reducible refine rd_dget1 ?_ | with_reducible refine rd_cdget ?_ | with_reducible refine rd_starts ?_ | with_reducible refine rd_raise ?_ | with_reducible refine rd_tryX ?_ | with_reducible refine iteNT ?_ | with_reducible refine iteNF ?_ | with_reducible refine iteF ?_ | with_reducible refine iteT ?_))
local macro_rules | `(tactic| walk_at "rd") => `(tactic| (repeat walk_at "rd1"))
local macro_rules | `(tactic| walk_at "mk") => `(tactic| refine ⟨mk_le rfl, ?_⟩)
section
set_option Elab.async false
set_option linter.all false
set_option maxRecDepth 100000
set_option maxHeartbeats 4000000

namespace My
open PySem L2
noncomputable def top (i : Nat) : Stmt := PySem.Challenge.pw_midlanes_k16_whole_one_text.main.body.getD i (.Pass ⟨0, 0, 0, 0⟩)
noncomputable abbrev s_shown : Stmt := top 9
noncomputable abbrev s_shown_def : Stmt := top 10
noncomputable abbrev s_shown_row : Stmt := top 11
noncomputable abbrev s_numbers_of : Stmt := top 12
noncomputable abbrev s_read : Stmt := top 13
noncomputable abbrev s_read_head : Stmt := top 14
noncomputable abbrev s_read_row : Stmt := top 15
noncomputable abbrev s_read_call : Stmt := top 16
noncomputable abbrev s_read_whole : Stmt := top 17
noncomputable abbrev s__law_bag : Stmt := top 19
noncomputable abbrev s__law_draw : Stmt := top 20
noncomputable abbrev s__law_number : Stmt := top 21
noncomputable abbrev s__law_letters : Stmt := top 22
noncomputable abbrev s__law_part : Stmt := top 23
noncomputable abbrev s__law_row : Stmt := top 24
noncomputable abbrev s__law_rows : Stmt := top 25
noncomputable abbrev s__law_signs : Stmt := top 26
noncomputable abbrev s__law_program : Stmt := top 27
noncomputable abbrev s__law_written : Stmt := top 28
noncomputable abbrev s__law_any_sign : Stmt := top 29
noncomputable abbrev s__law_run : Stmt := top 30
noncomputable abbrev s__law_bent_text : Stmt := top 31
noncomputable abbrev s__law_part_good : Stmt := top 32
noncomputable abbrev s__law_row_good : Stmt := top 33
noncomputable abbrev s__law_formed : Stmt := top 34
noncomputable abbrev s__law_read : Stmt := top 35
noncomputable abbrev s__law_copy : Stmt := top 36
noncomputable abbrev s__law_alike : Stmt := top 37
noncomputable abbrev s__law_turned : Stmt := top 38
noncomputable abbrev s_law : Stmt := top 39
structure Blt (mg : Str → Option Value) : Prop where
  b_ValueError : mg "ValueError" = none
  b_abs : mg "abs" = none
  b_all : mg "all" = none
  b_bool : mg "bool" = none
  b_int : mg "int" = none
  b_isinstance : mg "isinstance" = none
  b_len : mg "len" = none
  b_list : mg "list" = none
  b_min : mg "min" = none
  b_range : mg "range" = none
  b_str : mg "str" = none
  b_tuple : mg "tuple" = none
structure Glb (K : PySem.W.Frag) (w : World) (mg : Str → Option Value) : Prop where
  c_FIGURES : ∃ t, mg "FIGURES" = some (.str "0123456789" t)
  c_MOST_FIGURES : ∃ t, mg "MOST_FIGURES" = some (.int 60 t)
  c_PARTS : IsCD K w mg "PARTS" partsT

structure ExH (K : PySem.W.Frag) (mg : Str → Option Value) (C_NoText C_LaneError C_NotFormed C_Faulty : Addr) : Prop where
  m_NoText : mg "NoText" = some (.ref C_NoText)
  exc : ExcC K C_NoText
  m_LaneError : mg "LaneError" = some (.ref C_LaneError)
  m_NotFormed : mg "NotFormed" = some (.ref C_NotFormed)
  m_Faulty : mg "Faulty" = some (.ref C_Faulty)
  x_LaneError : PySem.W.exmOne K (.ref C_NoText) (.ref C_LaneError) = some true
  k : ExcK K C_NoText
  kV : PySem.W.kitCls K (.ref C_NoText) (.type "ValueError") = some true
  kN : PySem.W.kitCls K (.ref C_NoText) (.ref C_NotFormed) = some false
  kF : PySem.W.kitCls K (.ref C_NoText) (.ref C_Faulty) = some false
  nN : (Value.ref C_NoText == Value.ref C_NotFormed) = false
  nF : (Value.ref C_NoText == Value.ref C_Faulty) = false
theorem bt_ValueError : bootBuiltins "ValueError" = some (.type "ValueError") := by decide +kernel


section
variable {P : Program} {w : World} {K : PySem.W.Frag} {mg : Str → Option Value} {base : Heap}
/-- what a part is here: a number, or a tuple of numbers -/
noncomputable def PartD : Nat → D → Prop
  | _, .int _ => True
  | _ + 1, .tup ds => ds.length ≤ 1000 ∧ ∀ d ∈ ds, ∃ n, d = .int n
  | _, _ => False
/-- what the law's programs are like, spoilt or not -/
structure PgD (ds : List PDef) : Prop where
  len : ds.length ≤ 1000
  rows : ∀ d ∈ ds, d.2.2.length ≤ 1000
  part : ∀ d ∈ ds, ∀ r ∈ d.2.2, r.2.length ≤ 1000 ∧ ∀ p ∈ r.2, PartD 1 p

/-! the law's programs, with numbers of at most sixty figures -/
noncomputable def sp_number : Sp := sp1 fun x H Q => ∃ b l, x = .ref b ∧ BagAt H b l ∧ ∀ r H', r.natAbs < 10 ^ 60 → BagAt H' b l → BSame b H H' → Q (.int r) H'
noncomputable def PartI (boxes many ns : Int) (c : Str) (n : Int) : Prop := (c = "p" → 0 ≤ n ∧ n < boxes) ∧ (c = "t" → 0 ≤ n ∧ n < many) ∧ (c = "f" → 0 ≤ n ∧ n < ns) ∧ (c = "c" → -99 ≤ n ∧ n ≤ 99) ∧ n.natAbs < 10 ^ 60
noncomputable def PartG (sg : List (Int × Int)) (boxes many : Int) (ps : List D) (c : Str) (d : D) : Prop :=
  (c ≠ "q" ∧ ∃ n, d = .int n ∧ PartI boxes many sg.length c n) ∨
  (c = "q" ∧ ∃ (args : List Int) (f : Nat) (tk : Int × Int), ps[1]? = some (.int f) ∧ sg[f]? = some tk ∧ d = .tup (args.map D.int) ∧ (args.length : Int) = tk.1 ∧ ∀ q ∈ args, 0 ≤ q ∧ q < boxes)
structure RowG (sg : List (Int × Int)) (boxes many : Int) (w ls : Str) (ps : List D) : Prop where
  tab : (w, ls) ∈ lettersL
  len : ps.length = ls.cps.size
  parts : ∀ (i c : Nat), ls.cps[i]? = some c → ∃ d, ps[i]? = some d ∧ PartG sg boxes many ps ⟨#[c]⟩ d
noncomputable def RowOk (sg : List (Int × Int)) (boxes many : Int) (r : Str × List D) : Prop := ∃ ls, RowG sg boxes many r.1 ls r.2
structure RowsOk (sg : List (Int × Int)) (boxes many : Int) (rs : List (Str × List D)) : Prop where
  len : (rs.length : Int) = many
  all : ∀ r ∈ rs, RowOk sg boxes many r
  last : ∃ r, rs[rs.length - 1]? = some r ∧ (r.1 = "back" ∨ r.1 = "jump")
structure ProgOk (sg : List (Int × Int)) (ds : List PDef) : Prop where
  sgs : SgOk sg
  heads : ds.map (fun d => (d.1, d.2.1)) = sg
  rows : ∀ d ∈ ds, ∃ many, 1 ≤ many ∧ many ≤ 30 ∧ RowsOk sg d.2.1 many d.2.2

theorem sc__law_draw : FnScope ["bag", "many", "found"] ["bag", "many"] (defScope s__law_draw) := ⟨rfl, rfl, rfl, by decide +kernel, rfl, by decide +kernel, by decide +kernel⟩
theorem c__law_draw (B : Blt mg) (T__law_draw : TopFn K mg "_law_draw" s__law_draw ["bag", "many"]) : Callee P w K mg base "_law_draw" 1 ["bag", "many"] sp_draw := by
  refine T__law_draw.ok2 sc__law_draw fun f cdv A outer s H v1 v2 Q E hr h => ?_
  have nd := sc__law_draw.nd
  obtain ⟨b, l, n, rfl, rfl, ⟨hn, hn2⟩, Bg, k⟩ := h
  obtain ⟨xs, i, m, st, c, hb, hl, hi, ⟨hm0, hm1⟩, ⟨hs0, hs1⟩, hxs, hlen⟩ := Bg.ex
  have nbl : l ≠ b := ne_of hl hb (by
    intro z
    injection z with z
    cases xs <;> simp [bagL] at z)
  have hl2 : ∀ o, upd H b o l = some (.lst (xs.map V.int)) := fun o => by rw [upd_ne nbl]; exact hl
  refine' go_body [some (.ref b), some (.int n), none] rfl ?hb ?hg
  case hb =>
   refine' pss_cons ?zb ?zc
   case zb =>
    refine' ps_if ?zd ?ze ?zf
    case zd =>
     refine' PW.pt ?zg
     case zg =>
      refine' pw_and ?zh ?zi
      case zh => exact (pt_cmpR op_eq (pe_ix (k_ix (K := K) rfl) (pv 0) pe_int (fun _ _ => rfl)) pe_int (nomark _))
      case zi =>
       refine' pw_and1 ?zj
       case zj =>
        refine' pt_cmpR ?zk ?zl ?zm ?zn
        case zk => exact op_lt
        case zl => exact (pe_ix (k_ix (K := K) rfl) (pv 0) pe_int (fun _ _ => rfl))
        case zm => exact (pe_callB (k_len (K := K) rfl) (by rfl) B.b_len bt_len (pa_consS (pe_ix (k_ix (K := K) rfl) (pv 0) pe_int (fun _ _ => rfl)) pa_nil))
        case zn => exact (nomark _)
    case ze =>
     refine' pss_cons ?zo ?zp
     case zo =>
      refine' ps_asg ?zq ?zr
      case zq =>
       refine' pe_ix ?zs ?zt ?zu ?zv
       case zs => exact (k_ix (K := K) rfl)
       case zt => exact (pe_ix (k_ix (K := K) rfl) (pv 0) pe_int (fun _ _ => rfl))
       case zu => exact (pe_ix (k_ix (K := K) rfl) (pv 0) pe_int (fun _ _ => rfl))
       case zv => exact (fun _ _ => rfl)
      case zr => exact (pg_sub (pv 0) pe_int set_list)
     case zp => exact (pss_one (ps_asg (pe_op op_add (pe_ix (k_ix (K := K) rfl) (pv 0) pe_int (fun _ _ => rfl)) pe_int) (pg_sub (pv 0) pe_int set_list)))
    case zf =>
     refine' pss_one ?zw
     case zw =>
      refine' ps_if ?zx ?zy ?zz
      case zx => exact (pt_cmpR op_eq (pe_ix (k_ix (K := K) rfl) (pv 0) pe_int (fun _ _ => rfl)) pe_int (nomark _))
      case zy =>
       refine' pss_cons ?zba ?zbb
       case zba => exact (ps_asg (pe_op op_add (pe_ix (k_ix (K := K) rfl) (pv 0) pe_int (fun _ _ => rfl)) pe_int) (pg_sub (pv 0) pe_int set_list))
       case zbb =>
        refine' pss_cons ?zbc ?zbd
        case zbc =>
         refine' ps_asg ?zbe ?zbf
         case zbe =>
          refine' pe_op ?zbg ?zbh ?zbi
          case zbg => exact op_mod
          case zbh =>
           refine' pe_op ?zbj ?zbk ?zbl
           case zbj => exact op_add
           case zbk =>
            refine' pe_op ?zbm ?zbn ?zbo
            case zbm => exact op_add
            case zbn =>
             refine' pe_op ?zbp ?zbq ?zbr
             case zbp => exact op_add
             case zbq => exact (pe_op op_pow (pe_ix (k_ix (K := K) rfl) (pv 0) pe_int (fun _ _ => rfl)) pe_int)
             case zbr => exact (pe_op op_mul pe_int (pe_ix (k_ix (K := K) rfl) (pv 0) pe_int (fun _ _ => rfl)))
            case zbo => exact (pe_op op_mul pe_int (pe_ix (k_ix (K := K) rfl) (pv 0) pe_int (fun _ _ => rfl)))
           case zbl => exact pe_int
          case zbi => exact pe_int
         case zbf => exact (pg_sub (pv 0) pe_int set_list)
        case zbd => exact (pss_one (ps_ret (pe_op op_mod (pe_op op_fdivB (pe_ix (k_ix (K := K) rfl) (pv 0) pe_int (fun _ _ => rfl)) pe_int) (pv 1))))
      case zz => exact pss_nil
   case zc =>
    refine' pss_cons ?zbs ?zbt
    case zbs => exact (ps_setB (i := 2) nd rfl (Or.inl rfl) (pe_op op_mod (pe_ix (k_ix (K := K) rfl) (pv 0) pe_int (fun _ _ => rfl)) (pv 1)))
    case zbt =>
     refine' pss_cons ?zbu ?zbv
     case zbu => exact (ps_asg (pe_op op_fdivB (pe_ix (k_ix (K := K) rfl) (pv 0) pe_int (fun _ _ => rfl)) (pv 1)) (pg_sub (pv 0) pe_int set_list))
     case zbv => exact (pss_one (ps_ret (pv 2)))
  have fin : ∀ (j : Nat) (m' : Int), j ≤ xs.length → 0 ≤ m' → m' ≤ 10 ^ 60 → ∀ H1, BSame b H H1 → H1 b = some (.lst (bagL l j m' st c)) → H1 l = some (.lst (xs.map V.int)) →
      Q (.int (m' % n)) (upd H1 b (.lst (bagL l j (m' / n) st c))) := by
    intro j m' hj h0 h1 H1 bs hb1 hl1
    have hd0 : 0 ≤ m' / n := Int.ediv_nonneg h0 (Int.le_of_lt hn)
    have hd1 : m' / n ≤ m' := Int.ediv_le_self _ h0
    refine k _ _ (Int.emod_nonneg _ (by omega)) (Int.emod_lt_of_pos _ hn) ⟨xs, j, m' / n, st, c, upd_same, by rw [upd_ne nbl]; exact hl1, hj, ⟨hd0, by omega⟩, ⟨hs0, hs1⟩, hxs, hlen⟩ (bs.trans BSame.wr)
  have tail : ∀ (j : Nat) (m' : Int) (σ2 : St), σ2 = [some (.ref b), some (.int n), none] → j ≤ xs.length → 0 ≤ m' → m' ≤ 10 ^ 60 → ∀ H1, BSame b H H1 → H1 b = some (.lst (bagL l j m' st c)) → H1 l = some (.lst (xs.map V.int)) →
      tSeq (tAsg (tOp (rI (fun _ j => 0 < j) fun i j => .int (i % j)) (tOp (rIxA K) (tVar 0) (tC (.int 2))) (tVar 1)) (gName 2))
        (tSeq (tAsg (tOp (rI CDivB fun i j => .int (i / j)) (tOp (rIxA K) (tVar 0) (tC (.int 2))) (tVar 1)) (gSub (tVar 0) (tC (.int 2)) rSetL)) (tRet (tVar 2))) { nx := fun _ H' => Q .non H', rt := Q } σ2 H1 := by
    intro j m' σ2 e hj h0 h1 H1 bs hb1 hl1
    subst e
    walk_at "rd"
    refine rd_ixaL (v := .int m') hb1 rfl ?_
    walk_at "rd"
    refine rd_I hn ?_
    walk_at "rd"
    refine rd_ixaL (v := .int m') hb1 rfl ?_
    walk_at "rd"
    refine rd_I (cdivb_of hn (by omega)) ?_
    walk_at "rd"
    refine rd_setL (k := 2) hb1 rfl ?_
    walk_at "rd"
    exact fin j m' hj h0 h1 H1 bs hb1 hl1
  walk_at "rd"
  refine rd_ixaL (v := .int m) hb rfl ?_
  walk_at "rd"
  refine ite_dd (fun hm => ?_) (fun hm => ?_)
  · walk_at "rd"
    refine rd_ixaL (v := .int i) hb rfl ?_
    walk_at "rd"
    refine rd_ixaL (v := .ref l) hb rfl ?_
    walk_at "rd"
    refine rd_lenL' (SqL.of hl) ?_
    walk_at "rd"
    rw [List.length_map]
    refine ite_dd (fun hi2 => ?_) (fun hi2 => ?_)
    · walk_at "rd"
      refine rd_ixaL (v := .ref l) hb rfl ?_
      walk_at "rd"
      refine rd_ixaL (v := .int i) hb rfl ?_
      walk_at "rd"
      have hil : i < xs.length := by omega
      have hxi := hxs _ (List.getElem_mem hil)
      refine rd_ixaL (v := .int xs[i]) hl (atI_at (n := i) rfl (by rw [List.getElem?_map, List.getElem?_eq_getElem hil]; rfl)) ?_
      walk_at "rd"
      refine rd_setL (k := 2) hb rfl ?_
      walk_at "rd"
      refine rd_ixaL (v := .int i) upd_same rfl ?_
      walk_at "rd"
      refine rd_setL (k := 1) upd_same rfl ?_
      exact tail (i + 1) xs[i] _ rfl (by omega) hxi.1 hxi.2 _ (BSame.wr.trans BSame.wr) upd_same (by rw [upd_ne nbl]; exact hl2 _)
    · walk_at "rd"
      refine rd_ixaL (v := .int m) hb rfl ?_
      walk_at "rd"
      refine ite_dy hm ?_
      walk_at "rd"
      refine rd_ixaL (v := .int c) hb rfl ?_
      walk_at "rd"
      refine rd_setL (k := 4) hb rfl ?_
      walk_at "rd"
      refine rd_ixaL (v := .int st) upd_same rfl ?_
      walk_at "rd"
      refine rd_I ⟨by decide, by decide, by omega⟩ ?_
      walk_at "rd"
      refine rd_ixaL (v := .int st) upd_same rfl ?_
      walk_at "rd"
      refine rd_I (.inl ⟨by decide, by decide⟩) ?_
      walk_at "rd"
      refine rd_ixaL (v := .int (c + 1)) upd_same rfl ?_
      walk_at "rd"
      refine rd_I (.inl ⟨by decide, by decide⟩) ?_
      walk_at "rd"
      refine rd_I (by decide) ?_
      walk_at "rd"
      refine rd_setL (k := 3) upd_same rfl ?_
      walk_at "rd"
      generalize hst : (st ^ (3 : Int).toNat + 48271 * st + 1013 * (c + 1) + 1) % 2147483647 = st'
      have h0 : 0 ≤ st' := by rw [← hst]; exact Int.emod_nonneg _ (by decide)
      have h1 : st' < 2147483647 := by rw [← hst]; exact Int.emod_lt_of_pos _ (by decide)
      refine rd_ixaL (v := .int st') upd_same rfl ?_
      walk_at "rd"
      refine rd_I (cdivb_of (by decide) (by decide +kernel)) ?_
      walk_at "rd"
      refine rd_I hn ?_
      refine k _ _ (Int.emod_nonneg _ (by omega)) (Int.emod_lt_of_pos _ hn) ⟨xs, i, m, st', c + 1, upd_same, by rw [upd_ne nbl]; exact hl2 _, hi, ⟨hm0, hm1⟩, ⟨h0, h1⟩, hxs, hlen⟩ (BSame.wr.trans BSame.wr)
  · walk_at "rd"
    refine rd_ixaL (v := .int m) hb rfl ?_
    walk_at "rd"
    refine ite_dn hm ?_
    exact tail i m _ rfl hi hm0 hm1 H (BSame.refl _ _) hb hl

theorem sc__law_number : FnScope ["bag"] ["bag"] (defScope s__law_number) := ⟨rfl, rfl, rfl, by decide +kernel, rfl, by decide +kernel, by decide +kernel⟩
theorem c__law_number (T__law_number : TopFn K mg "_law_number" s__law_number ["bag"]) (C_law_draw : Callee P w K mg base "_law_draw" 1 ["bag", "many"] sp_draw) : Callee P w K mg base "_law_number" 2 ["bag"] sp_number := by
  refine T__law_number.ok1 sc__law_number fun f cdv A outer s H v1 Q E hr h => ?_
  have nd := sc__law_number.nd
  obtain ⟨b, l, rfl, Bg, k⟩ := h
  refine' go_body [some (.ref b)] rfl ?hb ?hg
  case hb =>
   refine' pss_cons ?zbw ?zbx
   case zbw =>
    refine' ps_if ?zby ?zbz ?zca
    case zby => exact (pt_cmpR op_eq (pe_fn C_law_draw (hr.mono (by first | decide | omega)) (by rfl) (pa_consN (pv 0) (pa_consK pe_int pa_nil))) pe_int (nomark _))
    case zbz =>
     refine' pss_one ?zcb
     case zcb =>
      refine' ps_ret ?zcc
      case zcc =>
       refine' pe_op ?zcd ?zce ?zcf
       case zcd => exact op_mulB
       case zce =>
        refine' pe_op ?zcg ?zch ?zci
        case zcg => exact op_sub
        case zch => exact (pe_op op_mulB (pe_fn C_law_draw (hr.mono (by first | decide | omega)) (by rfl) (pa_consN (pv 0) (pa_consK pe_int pa_nil))) pe_int)
        case zci => exact pe_int
       case zcf => exact (pe_fn C_law_draw (hr.mono (by first | decide | omega)) (by rfl) (pa_consN (pv 0) (pa_consB (pe_op op_pow pe_int pe_int) pa_nil)))
    case zca => exact pss_nil
   case zbx => exact (pss_one (ps_ret (pe_op op_sub (pe_fn C_law_draw (hr.mono (by first | decide | omega)) (by rfl) (pa_consN (pv 0) (pa_consK pe_int pa_nil))) pe_int)))
  walk_at "rd"
  refine use2 ⟨b, l, 8, rfl, rfl, ⟨by decide, by decide⟩, Bg, fun r H1 h0 h1 B1 b1 => ?_⟩
  walk_at "rd"
  refine ite_dd (fun _ => ?_) (fun _ => ?_)
  · walk_at "rd"
    refine use2 ⟨b, l, 2, rfl, rfl, ⟨by decide, by decide⟩, B1, fun r2 H2 g0 g1 B2 b2 => ?_⟩
    walk_at "rd"
    refine rd_I (cbig_of (by omega) (by decide +kernel)) ?_
    walk_at "rd"
    refine rd_I cpow60 ?_
    walk_at "rd"
    refine use2 ⟨b, l, _, rfl, rfl, ⟨by decide +kernel, by decide +kernel⟩, B2, fun r3 H3 f0 f1 B3 b3 => ?_⟩
    rw [ten60] at f1
    refine rd_I (cbig_of (by omega) (by omega)) ?_
    refine k _ _ ?_ B3 ((b1.trans b2).trans b3)
    rw [Int.natAbs_mul]
    have e1 : (r2 * 2 - 1).natAbs ≤ 1 := by omega
    have e2 : r3.natAbs < 10 ^ 60 := by omega
    exact Nat.lt_of_le_of_lt (Nat.le_trans (Nat.mul_le_mul_right _ e1) (Nat.le_of_eq (Nat.one_mul _))) e2
  · walk_at "rd"
    refine use2 ⟨b, l, 9, rfl, rfl, ⟨by decide, by decide⟩, B1, fun r2 H2 g0 g1 B2 b2 => ?_⟩
    walk_at "rd"
    exact k _ _ (by omega) B2 (b1.trans b2)

theorem sc__law_bag : FnScope ["script", "stir", "cell"] ["script"] (defScope s__law_bag) := ⟨rfl, rfl, rfl, by decide +kernel, rfl, by decide +kernel, by decide +kernel⟩
theorem c__law_bag (B : Blt mg) (T__law_bag : TopFn K mg "_law_bag" s__law_bag ["script"]) : Callee P w K mg base "_law_bag" 1 ["script"] (sp_bag K) := by
  refine T__law_bag.ok1 sc__law_bag fun f cdv A outer s H v1 Q E hr h => ?_
  have nd := sc__law_bag.nd
  obtain ⟨a, ns, rfl, hS, hlen, k⟩ := h
  refine' go_body [some (.ref a), none, none] rfl ?hb ?hg
  case hb =>
   refine' pss_cons ?zcj ?zck
   case zcj => exact (ps_set (i := 1) nd rfl (Or.inl rfl) pe_int)
   case zck =>
    refine' pss_cons ?zcl ?zcm
    case zcl =>
     refine' ps_for ?zcn ?zco ?zcp ?zcq ?zcr
     case zcn => exact PassesOwn.never
     case zco => exact rfl
     case zcp => exact (k_pi_list (K := K) rfl (pe_slice (k_sl (K := K) rfl) (pv 0) po_none (po_some pe_int)))
     case zcq => exact (pg_name (i := 2) nd rfl (Or.inl rfl))
     case zcr =>
      refine' pss_one ?zcs
      case zcs =>
       refine' ps_setB (i := 1) ?zct ?zcu ?zcv ?zcw
       case zct => exact nd
       case zcu => exact rfl
       case zcv => exact (Or.inl rfl)
       case zcw => exact (pe_op op_mod (pe_op op_add (pe_op op_add (pe_op op_mul (pv 1) pe_int) (pe_op op_mod (pv 2) pe_int)) pe_int) pe_int)
    case zcm =>
     refine' pss_one ?zcx
     case zcx =>
      refine' ps_ret ?zcy
      case zcy =>
       refine' pe_lst ?zcz
       case zcz =>
        refine' pa_consM ?zda ?zdb
        case zda =>
         refine' pe_comp (LN := ["cell"]) (FN := []) (fr := []) ?zdc ?zdd ?zde ?zdf ?zdg ?zdh
         case zdc => exact rfl
         case zdd => exact (bk_of (by rfl))
         case zde => exact (k_pi_list (K := K) rfl (pe_slice (k_sl (K := K) rfl) (pv 0) po_none (po_some pe_int)))
         case zdf =>
          intro cl C fp pins s H
          exact (pg_name (i := 0) (show ((["cell"] : List Str) ++ ([] : List Str)).Nodup by decide +kernel) rfl (Or.inl rfl))
         case zdg =>
          intro cl C fp pins s H
          exact pts_nil
         case zdh =>
          intro cl C fp pins s H
          exact (pe_op op_mod (pe_callB call_abs' (by rfl) B.b_abs bt_abs (pa_consN (pv 0) pa_nil)) (pe_op op_pow pe_int pe_int))
        case zdb => exact (pa_consK pe_int (pa_consK pe_int (pa_consN (pv 1) (pa_consK pe_int pa_nil))))
  walk_at "rd"
  refine rd_slL hS fun p hp => ?_
  obtain ⟨ms, em, hm⟩ := cutV_ints ns none (some 63)
  rw [em]
  refine ilK_of (SqL.of upd_same) ?_
  have s0 := Same.new (o := .lst (ms.map V.int)) hp
  generalize hH0 : upd H p (HO.lst (ms.map V.int)) = H0 at s0
  have hp0 : H0 p = some (.lst (ms.map V.int)) := by rw [← hH0]; exact upd_same
  refine for_list (xs := ms.map V.int) (fun i σ H1 => ∃ st c2, σ = [some (.ref a), some (.int st), c2] ∧ H1 = H0 ∧ 0 ≤ st ∧ st < 2147483647) ⟨11, none, rfl, rfl, by decide, by decide⟩ (fun i σ H1 _ ⟨_, _, _, e, _⟩ => by rw [e]; exact SqL.of hp0) ?_ ?_
  · rintro i x σ H1 hx ⟨st, c2, rfl, rfl, h0, h1⟩
    obtain ⟨z, rfl, _⟩ := ints_get hx
    walk_at "rd"
    refine rd_I (.inr ⟨by decide, by decide⟩) ?_
    walk_at "rd"
    refine rd_I (by decide) ?_
    walk_at "rd"
    refine rd_I (by decide) ?_
    walk_at "rd"
    exact ⟨_, _, rfl, rfl, Int.emod_nonneg _ (by decide), Int.emod_lt_of_pos _ (by decide)⟩
  · rintro σ H1 ⟨st, c2, rfl, rfl, h0, h1⟩
    walk_at "rd"
    refine rd_slL (s0.seq hS) fun p2 hp2 => ?_
    rw [em]
    refine ilK_of (SqL.of upd_same) ?_
    have s2 := Same.new (o := .lst (ms.map V.int)) hp2
    generalize hH2 : upd H1 p2 (HO.lst (ms.map V.int)) = H2 at s2
    have hp2' : H2 p2 = some (.lst (ms.map V.int)) := by rw [← hH2]; exact upd_same
    refine cw_list (xs := ms.map V.int) (small_le (by rw [List.length_map]; omega)) (fun i ys σ H3 => (∃ x1, σ = [x1]) ∧ H3 = H2 ∧ ∃ zs : List Int, ys = zs.map V.int ∧ ∀ z ∈ zs, 0 ≤ z ∧ z ≤ 10 ^ 60) ⟨⟨none, rfl⟩, rfl, [], rfl, fun _ h => by cases h⟩ (fun i ys σ H3 _ ⟨_, e, _⟩ => by rw [e]; exact SqL.of hp2') ?_ ?_
    · rintro i x ys σ H3 hx hle hlt ⟨⟨x1, rfl⟩, rfl, zs, rfl, hz⟩
      obtain ⟨z, rfl, _⟩ := ints_get hx
      walk_at "rd"
      refine rd_I cpow60 ?_
      refine rd_I (by decide +kernel) ?_
      rw [ten60]
      refine ⟨hlt, by simpa using hle, ⟨_, rfl⟩, rfl, zs ++ [_], by rw [List.map_append]; rfl, fun u hu => ?_⟩
      rcases List.mem_append.mp hu with hu | hu
      · exact hz u hu
      · obtain rfl := List.mem_singleton.mp hu
        omega
    · rintro ys σ H3 hyl ⟨⟨x1, rfl⟩, rfl, zs, rfl, hz⟩ l hl
      walk_at "rd"
      walk_at "mk"; intro bb hbb
      have sA := Same.new (o := .lst (zs.map V.int)) hl
      have sB := Same.new (o := .lst [V.ref l, V.int 0, V.int 0, V.int st, V.int 0]) hbb
      have sall := ((s0.trans s2).trans sA).trans sB
      rw [List.length_map, List.length_map] at hyl
      exact k bb l _ (((s0.trans s2).trans sA).free hbb) sall ⟨zs, 0, 0, st, 0, upd_same, upd_old upd_same hbb, Nat.zero_le _, ⟨by decide, by decide⟩, ⟨h0, h1⟩, hz, by omega⟩

noncomputable def sp_letters : Sp := sp0 fun H Q => ∀ p H', H p = none → H' p = some (.dK lettersKV) → Same H H' → Q (.ref p) H'
theorem sc__law_letters : FnScope [] [] (defScope s__law_letters) := ⟨rfl, rfl, rfl, by decide +kernel, rfl, by decide +kernel, by decide +kernel⟩
theorem c__law_letters (T__law_letters : TopFn K mg "_law_letters" s__law_letters []) : Callee P w K mg base "_law_letters" 1 [] sp_letters := by
  refine T__law_letters.ok0 sc__law_letters fun f cdv A outer s H Q E hr h => ?_
  have nd := sc__law_letters.nd
  refine go_body [] rfl (t := tRet (tDisp ((lettersKV.map fun kv => (kV kv.1, kv.2)).map fun q => (tC q.1, tC q.2)))) ?hh ?_
  case hh =>
    refine pss_one ?_
    refine ps_ret ?_
    refine pe_disp ?_ ?_ ?_ ?_ ?_
    rotate_left
    · rfl
    · rfl
    · exact List.cons_ne_nil _ _
    · exact Nat.le_of_ble_eq_true rfl
    simp only [lettersKV, lettersL, List.map_cons, List.map_nil, kV]
    repeat (refine pps_cons ?_ ?_ ?_; exact pe_str; exact pe_str)
    exact pps_nil
  refine rd_ret fun p hp => ?_
  refine tPairs_c (lettersKV.map fun kv => (kV kv.1, kv.2)) ?_
  refine ⟨upd_same, lettersKV, rfl, by decide, ?_⟩
  rw [merge_letters, upd_upd]
  exact h p _ hp upd_same (Same.new hp)
noncomputable def sp_part : Sp := sp5 fun x1 x2 x3 x4 x5 H Q => ∃ b l c boxes many sp xs, x1 = .ref b ∧ x2 = .str c ∧ x3 = .int boxes ∧ x4 = .int many ∧ x5 = .ref sp ∧ (1 ≤ boxes ∧ boxes ≤ 1000) ∧ (1 ≤ many ∧ many ≤ 1000) ∧ H sp = some (.lst xs) ∧ (0 < xs.length ∧ xs.length ≤ 1000) ∧ sp ≠ b ∧ BagAt H b l ∧
  ∀ n H', PartI boxes many xs.length c n → BagAt H' b l → BSame b H H' → Q (.int n) H'
theorem sc__law_part : FnScope ["bag", "letter", "boxes", "many", "signs"] ["bag", "letter", "boxes", "many", "signs"] (defScope s__law_part) := ⟨rfl, rfl, rfl, by decide +kernel, rfl, by decide +kernel, by decide +kernel⟩
theorem c__law_part (B : Blt mg) (T__law_part : TopFn K mg "_law_part" s__law_part ["bag", "letter", "boxes", "many", "signs"]) (C_law_draw : Callee P w K mg base "_law_draw" 1 ["bag", "many"] sp_draw) (C_law_number : Callee P w K mg base "_law_number" 2 ["bag"] sp_number) :
    Callee P w K mg base "_law_part" 3 ["bag", "letter", "boxes", "many", "signs"] sp_part := by
  refine T__law_part.ok5 sc__law_part fun f cdv A outer s H v1 v2 v3 v4 v5 Q E hr h => ?_
  have nd := sc__law_part.nd
  obtain ⟨b, l, c, boxes, many, sp, xs, rfl, rfl, rfl, rfl, rfl, ⟨b0, b1⟩, ⟨m0, m1⟩, hsp, ⟨x0, x1⟩, nsp, Bg, k⟩ := h
  refine' go_body [some (.ref b), some (.str c), some (.int boxes), some (.int many), some (.ref sp)] rfl ?hb ?hg
  case hb =>
   refine' pss_cons ?zdi ?zdj
   case zdi =>
    refine' ps_if ?zdk ?zdl ?zdm
    case zdk => exact (pt_cmpR op_eq (pv 1) pe_str (nomark _))
    case zdl => exact (pss_one (ps_ret (pe_fn C_law_draw (hr.mono (by first | decide | omega)) (by rfl) (pa_consN (pv 0) (pa_consN (pv 2) pa_nil)))))
    case zdm => exact pss_nil
   case zdj =>
    refine' pss_cons ?zdn ?zdo
    case zdn =>
     refine' ps_if ?zdp ?zdq ?zdr
     case zdp => exact (pt_cmpR op_eq (pv 1) pe_str (nomark _))
     case zdq => exact (pss_one (ps_ret (pe_fn C_law_draw (hr.mono (by first | decide | omega)) (by rfl) (pa_consN (pv 0) (pa_consN (pv 3) pa_nil)))))
     case zdr => exact pss_nil
    case zdo =>
     refine' pss_cons ?zds ?zdt
     case zds =>
      refine' ps_if ?zdu ?zdv ?zdw
      case zdu => exact (pt_cmpR op_eq (pv 1) pe_str (nomark _))
      case zdv =>
       refine' pss_one ?zdx
       case zdx =>
        refine' ps_ret ?zdy
        case zdy =>
         refine' pe_fn ?zdz ?zea ?zeb ?zec
         case zdz => exact C_law_draw
         case zea => exact (hr.mono (by first | decide | omega))
         case zeb => exact (by rfl)
         case zec => exact (pa_consN (pv 0) (pa_consC (pe_callB (k_len (K := K) rfl) (by rfl) B.b_len bt_len (pa_consN (pv 4) pa_nil)) pa_nil))
      case zdw => exact pss_nil
     case zdt =>
      refine' pss_cons ?zed ?zee
      case zed =>
       refine' ps_if ?zef ?zeg ?zeh
       case zef => exact (pt_cmpR op_eq (pv 1) pe_str (nomark _))
       case zeg => exact (pss_one (ps_ret (pe_op op_sub (pe_fn C_law_draw (hr.mono (by first | decide | omega)) (by rfl) (pa_consN (pv 0) (pa_consK pe_int pa_nil))) pe_int)))
       case zeh => exact pss_nil
      case zee => exact (pss_one (ps_ret (pe_fn C_law_number (hr.mono (by first | decide | omega)) (by rfl) (pa_consN (pv 0) pa_nil))))
  walk_at "rd"
  refine ite_dd (fun e => ?_) (fun np => ?_)
  · walk_at "rd"
    refine use2 ⟨b, l, boxes, rfl, rfl, ⟨by omega, by omega⟩, Bg, fun n H' n0 n1 B' b' => ?_⟩
    subst e
    exact k n H' ⟨fun _ => ⟨n0, n1⟩, fun z => absurd z (by decide), fun z => absurd z (by decide), fun z => absurd z (by decide), by omega⟩ B' b'
  · walk_at "rd"
    refine ite_dd (fun e => ?_) (fun nt => ?_)
    · walk_at "rd"
      refine use2 ⟨b, l, many, rfl, rfl, ⟨by omega, by omega⟩, Bg, fun n H' n0 n1 B' b' => ?_⟩
      subst e
      exact k n H' ⟨fun z => absurd z (by decide), fun _ => ⟨n0, n1⟩, fun z => absurd z (by decide), fun z => absurd z (by decide), by omega⟩ B' b'
    · walk_at "rd"
      refine ite_dd (fun e => ?_) (fun nf => ?_)
      · walk_at "rd"
        refine rd_lenL' (SqL.of hsp) ?_
        walk_at "rd"
        refine use2 ⟨b, l, xs.length, rfl, rfl, ⟨by omega, by omega⟩, Bg, fun n H' n0 n1 B' b' => ?_⟩
        subst e
        exact k n H' ⟨fun z => absurd z (by decide), fun z => absurd z (by decide), fun _ => ⟨n0, n1⟩, fun z => absurd z (by decide), by omega⟩ B' b'
      · walk_at "rd"
        refine ite_dd (fun e => ?_) (fun nc => ?_)
        · walk_at "rd"
          refine use2 ⟨b, l, 199, rfl, rfl, ⟨by decide, by decide⟩, Bg, fun n H' n0 n1 B' b' => ?_⟩
          subst e
          walk_at "rd"
          exact k _ H' ⟨fun z => absurd z (by decide), fun z => absurd z (by decide), fun z => absurd z (by decide), fun _ => by omega, by omega⟩ B' b'
        · walk_at "rd"
          refine use1 ⟨b, l, rfl, Bg, fun n H' n0 B' b' => ?_⟩
          exact k n H' ⟨fun z => absurd z np, fun z => absurd z nt, fun z => absurd z nf, fun z => absurd z nc, n0⟩ B' b'
noncomputable def sp_row : Sp := sp5 fun x1 x2 x3 x4 x5 H Q => ∃ b l wd ls boxes many sp xs sg, x1 = .ref b ∧ x2 = .str wd ∧ x3 = .int boxes ∧ x4 = .int many ∧ x5 = .ref sp ∧ (wd, ls) ∈ lettersL ∧ (1 ≤ boxes ∧ boxes ≤ 1000) ∧ (1 ≤ many ∧ many ≤ 1000) ∧ H sp = some (.lst xs) ∧ Reps H (sg.map pairD) xs ∧ SgOk sg ∧ sp ≠ b ∧ BagAt H b l ∧
  ∀ ps v H', RowG sg boxes many wd ls ps → Rep H' (rowD (wd, ps)) v → BagAt H' b l → BSame b H H' → Q v H'
theorem sc__law_row : FnScope ["bag", "word", "boxes", "many", "signs", "row", "letter", "args"] ["bag", "word", "boxes", "many", "signs"] (defScope s__law_row) := ⟨rfl, rfl, rfl, by decide +kernel, rfl, by decide +kernel, by decide +kernel⟩
theorem c__law_row (B : Blt mg) (T__law_row : TopFn K mg "_law_row" s__law_row ["bag", "word", "boxes", "many", "signs"]) (C_law_draw : Callee P w K mg base "_law_draw" 1 ["bag", "many"] sp_draw) (C_law_letters : Callee P w K mg base "_law_letters" 1 [] sp_letters)
    (C_law_part : Callee P w K mg base "_law_part" 3 ["bag", "letter", "boxes", "many", "signs"] sp_part) : Callee P w K mg base "_law_row" 4 ["bag", "word", "boxes", "many", "signs"] sp_row := by
  refine T__law_row.ok5 sc__law_row fun f cdv A outer s H v1 v2 v3 v4 v5 Q E hr h => ?_
  have nd := sc__law_row.nd
  have hu := hr.units
  have hu1 := hu_of hr
  obtain ⟨b, l, wd, ls, boxes, many, sp, xs, sg, rfl, rfl, rfl, rfl, rfl, tab, ⟨b0, b1⟩, ⟨m0, m1⟩, hsp, rsg, SG, nsp, Bg, k⟩ := h
  refine' go_body [some (.ref b), some (.str wd), some (.int boxes), some (.int many), some (.ref sp), none, none, none] rfl ?hb ?hg
  case hb =>
   refine' pss_cons ?zei ?zej
   case zei => exact (ps_setT (i := 5) nd rfl (Or.inl rfl) (pe_tup (pa_consN (pv 1) pa_nil)))
   case zej =>
    refine' pss_cons ?zek ?zel
    case zek =>
     refine' ps_for ?zem ?zen ?zeo ?zep ?zeq
     case zem => exact PassesOwn.never
     case zen => exact rfl
     case zeo => exact (k_pi_str (K := K) rfl (pe_dget hu1 (pe_fn0 C_law_letters (hr.mono (by first | decide | omega)) (by rfl)) (pv 1) (fun _ _ => rfl)))
     case zep => exact (pg_name (i := 6) nd rfl (Or.inl rfl))
     case zeq =>
      refine' pss_one ?zer
      case zer =>
       refine' ps_if ?zes ?zet ?zeu
       case zes => exact (pt_cmpR op_eq (pv 6) pe_str (nomark _))
       case zet =>
        refine' pss_cons ?zev ?zew
        case zev =>
         refine' ps_setc (i := 7) (LN := ["k"]) (FN := ["bag", "boxes"]) (fr := [0, 2]) ?zex ?zey ?zez ?zfa ?zfb ?zfc ?zfd ?zfe ?zff
         case zex => exact rfl
         case zey => exact nd
         case zez => exact rfl
         case zfa => exact rfl
         case zfb => exact (bk_of (by rfl))
         case zfc =>
          refine' pi_range1 ?zfg ?zfh ?zfi
          case zfg => exact rfl
          case zfh => exact B.b_range
          case zfi =>
           refine' pa_consS ?zfj ?zfk
           case zfj =>
            refine' pe_ix ?zfl ?zfm ?zfn ?zfo
            case zfl => exact (k_ix (K := K) rfl)
            case zfm => exact (pe_ix (k_ix (K := K) rfl) (pv 4) (pe_ix (k_ix (K := K) rfl) (pv 5) pe_int (fun _ _ => rfl)) (fun _ _ => rfl))
            case zfn => exact pe_int
            case zfo => exact (fun _ _ => rfl)
           case zfk => exact pa_nil
         case zfd =>
          intro cl C fp pins s H
          exact (pg_name (i := 0) (show ((["k"] : List Str) ++ (["bag", "boxes"] : List Str)).Nodup by decide +kernel) rfl (Or.inl rfl))
         case zfe =>
          intro cl C fp pins s H
          exact pts_nil
         case zff =>
          intro cl C fp pins s H
          exact (pe_fn C_law_draw (hr.mono (by first | decide | omega)) (by rfl) (pa_consN (pv 1) (pa_consN (pv 2) pa_nil)))
        case zew =>
         refine' pss_one ?zfp
         case zfp =>
          refine' ps_setB (i := 5) ?zfq ?zfr ?zfs ?zft
          case zfq => exact nd
          case zfr => exact rfl
          case zfs => exact (Or.inl rfl)
          case zft =>
           refine' pe_op ?zfu ?zfv ?zfw
           case zfu => exact (k_catT (K := K) rfl)
           case zfv => exact (pv 5)
           case zfw => exact (pe_tup (pa_consC (pe_callTy (k_tupOf (K := K) rfl) (by rfl) B.b_tuple bt_tuple (pa_consN (pv 7) pa_nil)) pa_nil))
       case zeu =>
        refine' pss_one ?zfx
        case zfx =>
         refine' ps_setB (i := 5) ?zfy ?zfz ?zga ?zgb
         case zfy => exact nd
         case zfz => exact rfl
         case zga => exact (Or.inl rfl)
         case zgb =>
          refine' pe_op ?zgc ?zgd ?zge
          case zgc => exact (k_catT (K := K) rfl)
          case zgd => exact (pv 5)
          case zge =>
           refine' pe_tup ?zgf
           case zgf =>
            refine' pa_consC ?zgg ?zgh
            case zgg =>
             refine' pe_fn ?zgi ?zgj ?zgk ?zgl
             case zgi => exact C_law_part
             case zgj => exact (hr.mono (by first | decide | omega))
             case zgk => exact (by rfl)
             case zgl => exact (pa_consN (pv 0) (pa_consN (pv 6) (pa_consN (pv 2) (pa_consN (pv 3) (pa_consN (pv 4) pa_nil)))))
            case zgh => exact pa_nil
    case zel => exact (pss_one (ps_ret (pv 5)))
  walk_at "rd"
  walk_at "mk"; intro p0 hp0
  have s0 := Same.new (o := .tup [V.str wd]) hp0
  walk_at "rd"
  refine rd_istr ?_
  walk_at "rd"
  refine use0 (b := fun H Q => ∀ p H', H p = none → H' p = some (.dK lettersKV) → Same H H' → Q (.ref p) H') fun pd H1 hpd hd s1 => ?_
  walk_at "rd"
  refine ⟨pd, _, rfl, (letters_val tab) ▸ DGet.k (k := Sum.inr wd) hd, ?_⟩
  refine ⟨ls, rfl, only_ascii _ tab, ?_⟩
  have xlen := rsg.length
  rw [List.length_map] at xlen
  have hsp1 := (s0.trans s1) _ _ hsp
  refine for_str (fun i σ Hx => ∃ rt ps vs x6 x7, σ = [some (.ref b), some (.str wd), some (.int boxes), some (.int many), some (.ref sp), some (.ref rt), x6, x7] ∧ Hx rt = some (.tup (V.str wd :: vs)) ∧ Reps Hx ps vs ∧ ps.length = i ∧ BagAt Hx b l ∧ BSame b H Hx ∧
    ∀ j c, j < i → ls.cps[j]? = some c → ∃ d, ps[j]? = some d ∧ PartG sg boxes many ps ⟨#[c]⟩ d)
    ⟨p0, [], [], none, none, rfl, s1 _ _ upd_same, reps_nil, rfl, Bg.mono (s0.trans s1), (BSame.refl b H).to (s0.trans s1), fun j c hj => absurd hj (Nat.not_lt_zero _)⟩ ?_ ?_
  · rintro i c σ Hx hc ⟨rt, ps, vs, x6, x7, rfl, hrt, rps, hpl, Bx, bx, hps⟩
    have hspx : Hx sp = some (.lst xs) := bx _ _ nsp hsp
    have hvl := rps.length
    -- a part more
    have more : ∀ (d : D) (u : V) (H5 : Hp) (t1 : Addr), Rep H5 d u → (∀ c', c' = (⟨#[c]⟩ : Str) → PartG sg boxes many (ps ++ [d]) c' d) → BagAt H5 b l → BSame b H H5 → H5 rt = some (.tup (V.str wd :: vs)) → Reps H5 ps vs → H5 t1 = none →
        ∃ rt' ps' vs', (upd H5 t1 (.tup (V.str wd :: vs ++ [u]))) t1 = some (.tup (V.str wd :: vs')) ∧ rt' = t1 ∧ Reps (upd H5 t1 (.tup (V.str wd :: vs ++ [u]))) ps' vs' ∧ ps'.length = i + 1 ∧ BagAt (upd H5 t1 (.tup (V.str wd :: vs ++ [u]))) b l ∧ BSame b H (upd H5 t1 (.tup (V.str wd :: vs ++ [u]))) ∧
        ∀ j c, j < i + 1 → ls.cps[j]? = some c → ∃ d, ps'[j]? = some d ∧ PartG sg boxes many ps' ⟨#[c]⟩ d := by
      intro d u H5 t1 rd hd B5 b5 h5 r5 ht1
      have s5 := Same.new (o := .tup (V.str wd :: vs ++ [u])) ht1
      refine ⟨t1, ps ++ [d], vs ++ [u], upd_same, rfl, Reps.append (r5.mono s5.ts) (reps_cons (rd.mono s5.ts) reps_nil), by simp [hpl], B5.mono s5, b5.to s5, fun j c' hj hc' => ?_⟩
      rcases Nat.lt_or_ge j i with q | q
      · obtain ⟨d', e1, e2⟩ := hps j c' q hc'
        refine ⟨d', by rw [List.getElem?_append_left (by omega)]; exact e1, ?_⟩
        rcases e2 with e2 | ⟨e2, args, f', tk, e3, e4⟩
        · exact .inl e2
        · have hl1 : 1 < ps.length := (List.getElem?_eq_some_iff.mp e3).1
          exact .inr ⟨e2, args, f', tk, by rw [List.getElem?_append_left hl1]; exact e3, e4⟩
      · have : j = i := by omega
        subst this
        rw [hc] at hc'
        cases hc'
        exact ⟨d, by rw [List.getElem?_append_right (by omega), hpl]; simp, hd _ rfl⟩
    walk_at "rd"
    refine ite_dd (fun hq => ?_) (fun hq => ?_)
    · obtain ⟨hi2, c1, hc1, hf⟩ := q_at tab hc hq
      obtain ⟨d1, ed1, g1⟩ := hps 1 c1 (by omega) hc1
      have g3 : ∃ n, d1 = .int n ∧ PartI boxes many sg.length ⟨#[c1]⟩ n := by
        rcases g1 with g1 | g1
        · exact g1.2
        · rw [hf] at g1
          exact absurd g1.1 (by decide)
      clear g1
      obtain ⟨n1, rfl, g1⟩ := g3
      have g2 := g1.2.2.1 hf
      obtain ⟨n1, rfl⟩ := Int.eq_ofNat_of_zero_le g2.1
      obtain ⟨u1, eu1, ru1⟩ := rps.get ed1
      obtain rfl := rep_int_inv ru1
      have hn1 : n1 < sg.length := by omega
      have esg : sg[n1]? = some sg[n1] := List.getElem?_eq_getElem hn1
      have rsx := rsg.mono (bx.ts Bg)
      obtain ⟨u2, eu2, ru2⟩ := rsx.get (i := n1) (d := pairD sg[n1]) (by rw [List.getElem?_map, esg]; rfl)
      have gk := SG.all _ (List.getElem_mem hn1)
      walk_at "rd"
      refine rd_ixaT hrt (v := .int n1) (atI_at (n := 2) rfl (by simpa using eu1)) ?_
      refine rd_ixaL hspx (atI_at (n := n1) rfl eu2) ?_
      walk_at "rd"
      refine rd_ixI (n := 0) ru2 rfl rfl ?_
      walk_at "rd"
      refine irK_of (by omega) (by omega) ?_
      refine cw_range (small_le (by omega)) (fun j ys σ Hy => (∃ x1, σ = [x1, some (.ref b), some (.int boxes)]) ∧ ∃ zs : List Int, ys = zs.map V.int ∧ zs.length = j ∧ (∀ z ∈ zs, 0 ≤ z ∧ z < boxes) ∧ BagAt Hy b l ∧ BSame b Hx Hy) ⟨⟨none, rfl⟩, [], rfl, rfl, by simp, Bx, BSame.refl _ _⟩ ?_ ?_
      · rintro j ys σ Hy hj hle hlt ⟨⟨x1, rfl⟩, zs, rfl, hz, hb, By, bY⟩
        walk_at "rd"
        refine use2 ⟨b, l, boxes, rfl, rfl, ⟨by omega, by omega⟩, By, fun r H2 g0 g1' B2 b2 => ?_⟩
        refine ⟨hlt, by simpa using hle, ⟨_, rfl⟩, zs ++ [r], by simp, by simp [hz], ?_, B2, bY.trans b2⟩
        intro z hz'
        rcases List.mem_append.mp hz' with hz' | hz'
        · exact hb z hz'
        · obtain rfl := List.mem_singleton.mp hz'
          exact ⟨g0, g1'⟩
      · rintro ys σ Hy hyl ⟨⟨x1, rfl⟩, zs, rfl, hz, hb, By, bY⟩ pa hpa
        have sa := Same.new (o := .lst (zs.map V.int)) hpa
        walk_at "rd"
        refine rd_tupL (SqL.of upd_same) fun t2 ht2 => ?_
        have sb := Same.new (o := .tup (zs.map V.int)) ht2
        walk_at "mk"; intro t3 ht3
        have sc := Same.new (o := .tup [V.ref t2]) ht3
        have hb' : ∀ xs, Hx rt = some xs → rt ≠ b := fun xs _ => by
          obtain ⟨zs', hb2⟩ := Bx.lst
          exact ne_of hrt hb2 (by intro z; cases z)
        have nrt := hb' _ hrt
        have h5 := ((sa.trans sb).trans sc) _ _ (bY _ _ nrt hrt)
        refine ⟨rt, t3, _, _, rfl, rfl, SqT.of h5, SqT.of upd_same, by simp, small_le (by simp; have : ls.cps.size ≤ 3 := le3 tab; have := (Array.getElem?_eq_some_iff.mp hc).1; omega), fun z => absurd z (by simp), fun _ t4 ht4 => ?_⟩
        walk_at "rd"
        obtain ⟨rt', ps', vs', q1, rfl, q2, q3, q4, q5, q6⟩ := more (.tup (zs.map D.int)) (.ref t2) _ t4 (rep_tup (sc _ _ upd_same) (reps_of_ints zs)) (fun c' ec => .inr ⟨by rw [ec]; exact hq, zs, n1, sg[n1], by rw [List.getElem?_append_left (by omega)]; exact ed1, esg, rfl, by omega, hb⟩)
          (((By.mono sa).mono sb).mono sc) ((bx.trans bY).to ((sa.trans sb).trans sc)) h5 ((rps.mono (bY.ts Bx)).mono ((sa.trans sb).trans sc).ts) ht4
        exact ⟨_, ps', vs', _, _, rfl, q1, q2, q3, q4, q5, q6⟩
    · walk_at "rd"
      refine use5 ⟨b, l, ⟨#[c]⟩, boxes, many, sp, xs, rfl, rfl, rfl, rfl, rfl, ⟨b0, b1⟩, ⟨m0, m1⟩, hspx, ⟨by have := SG.pos; omega, by have := SG.few; omega⟩, nsp, Bx, fun n H2 hn B2 b2 => ?_⟩
      walk_at "rd"
      walk_at "mk"; intro t3 ht3
      have sc := Same.new (o := .tup [V.int n]) ht3
      obtain ⟨zs', hb2⟩ := Bx.lst
      have nrt := ne_of hrt hb2 (by intro z; cases z)
      have h5 := sc _ _ (b2 _ _ nrt hrt)
      refine ⟨rt, t3, _, _, rfl, rfl, SqT.of h5, SqT.of upd_same, by simp, small_le (by simp; have : ls.cps.size ≤ 3 := le3 tab; have := (Array.getElem?_eq_some_iff.mp hc).1; omega), fun z => absurd z (by simp), fun _ t4 ht4 => ?_⟩
      walk_at "rd"
      rw [← xlen] at hn
      obtain ⟨rt', ps', vs', q1, rfl, q2, q3, q4, q5, q6⟩ := more (.int n) (.int n) _ t4 rep_int (fun c' ec => .inl ⟨by rw [ec]; exact hq, n, rfl, by rw [ec]; exact hn⟩) (B2.mono sc) ((bx.trans b2).to sc) h5 ((rps.mono (b2.ts Bx)).mono sc.ts) ht4
      exact ⟨_, ps', vs', _, _, rfl, q1, q2, q3, q4, q5, q6⟩
  · rintro σ Hx ⟨rt, ps, vs, x6, x7, rfl, hrt, rps, hpl, Bx, bx, hps⟩
    walk_at "rd"
    exact k ps _ _ ⟨tab, hpl, fun i c e => hps i c (Array.getElem?_eq_some_iff.mp e).1 e⟩ (rep_tup hrt (reps_cons (by rw [Rep]) rps)) Bx bx

noncomputable def sp_rows : Sp := sp4 fun x1 x2 x3 x4 H Q => ∃ b l boxes many sp xs sg, x1 = .ref b ∧ x2 = .int boxes ∧ x3 = .int many ∧ x4 = .ref sp ∧ (1 ≤ boxes ∧ boxes ≤ 8) ∧ (1 ≤ many ∧ many ≤ 30) ∧ H sp = some (.lst xs) ∧ Reps H (sg.map pairD) xs ∧ SgOk sg ∧ sp ≠ b ∧ BagAt H b l ∧
  ∀ rs q ys H', RowsOk sg boxes many rs → H q = none → q ≠ b → q ≠ l → H' q = some (.lst ys) → Reps H' (rs.map rowD) ys → BagAt H' b l → BSame b H H' → Q (.ref q) H'
theorem sc__law_rows : FnScope ["bag", "boxes", "many", "signs", "rows", "k", "word"] ["bag", "boxes", "many", "signs"] (defScope s__law_rows) := ⟨rfl, rfl, rfl, by decide +kernel, rfl, by decide +kernel, by decide +kernel⟩
theorem c__law_rows (B : Blt mg) (T__law_rows : TopFn K mg "_law_rows" s__law_rows ["bag", "boxes", "many", "signs"]) (C_law_draw : Callee P w K mg base "_law_draw" 1 ["bag", "many"] sp_draw) (C_law_letters : Callee P w K mg base "_law_letters" 1 [] sp_letters)
    (C_law_row : Callee P w K mg base "_law_row" 4 ["bag", "word", "boxes", "many", "signs"] sp_row) : Callee P w K mg base "_law_rows" 5 ["bag", "boxes", "many", "signs"] sp_rows := by
  refine T__law_rows.ok4 sc__law_rows fun f cdv A outer s H v1 v2 v3 v4 Q E hr h => ?_
  have nd := sc__law_rows.nd
  obtain ⟨b, l, boxes, many, sp, xs, sg, rfl, rfl, rfl, rfl, ⟨b0, b1⟩, ⟨m0, m1⟩, hsp, rsg, SG, nsp, Bg, k⟩ := h
  refine' go_body [some (.ref b), some (.int boxes), some (.int many), some (.ref sp), none, none, none] rfl ?hb ?hg
  case hb =>
   refine' pss_cons ?zgm ?zgn
   case zgm => exact (ps_setL (i := 4) nd rfl (Or.inl rfl) (pe_lst pa_nil))
   case zgn =>
    refine' pss_cons ?zgo ?zgp
    case zgo =>
     refine' ps_for ?zgq ?zgr ?zgs ?zgt ?zgu
     case zgq => exact PassesOwn.never
     case zgr => exact rfl
     case zgs => exact (pi_range1 rfl B.b_range (pa_consB (pe_op op_sub (pv 2) pe_int) pa_nil))
     case zgt => exact (pg_name (i := 5) nd rfl (Or.inl rfl))
     case zgu =>
      refine' pss_cons ?zgv ?zgw
      case zgv =>
       refine' ps_setS (i := 6) ?zgx ?zgy ?zgz ?zha
       case zgx => exact nd
       case zgy => exact rfl
       case zgz => exact (Or.inl rfl)
       case zha =>
        refine' pe_ix ?zhb ?zhc ?zhd ?zhe
        case zhb => exact (k_ix (K := K) rfl)
        case zhc => exact (pe_callTy (call_listD rfl) (by rfl) B.b_list bt_list (pa_consC (pe_fn0 C_law_letters (hr.mono (by first | decide | omega)) (by rfl)) pa_nil))
        case zhd => exact (pe_fn C_law_draw (hr.mono (by first | decide | omega)) (by rfl) (pa_consN (pv 0) (pa_consK pe_int pa_nil)))
        case zhe => exact (fun _ _ => rfl)
      case zgw =>
       refine' pss_one ?zhf
       case zhf =>
        refine' ps_expr ?zhg
        case zhg =>
         refine' k_bm (K := K) ?zhh ?zhi ?zhj ?zhk ?zhl ?zhm ?zhn
         case zhh => exact rfl
         case zhi => exact PySem.F.plainAttrs_list
         case zhj => exact PySem.F.slot_list_append
         case zhk => exact PySem.F.type_list_append
         case zhl => exact mt_append
         case zhm => exact (pv 4)
         case zhn =>
          refine' pa_consC ?zho ?zhp
          case zho =>
           refine' pe_fn ?zhq ?zhr ?zhs ?zht
           case zhq => exact C_law_row
           case zhr => exact (hr.mono (by first | decide | omega))
           case zhs => exact (by rfl)
           case zht => exact (pa_consN (pv 0) (pa_consN (pv 6) (pa_consN (pv 1) (pa_consN (pv 2) (pa_consN (pv 3) pa_nil)))))
          case zhp => exact pa_nil
    case zgp =>
     refine' pss_cons ?zhu ?zhv
     case zhu =>
      refine' ps_expr ?zhw
      case zhw =>
       refine' k_bm (K := K) ?zhx ?zhy ?zhz ?zia ?zib ?zic ?zid
       case zhx => exact rfl
       case zhy => exact PySem.F.plainAttrs_list
       case zhz => exact PySem.F.slot_list_append
       case zia => exact PySem.F.type_list_append
       case zib => exact mt_append
       case zic => exact (pv 4)
       case zid =>
        refine' pa_consC ?zie ?zif
        case zie =>
         refine' pe_fn ?zig ?zih ?zii ?zij
         case zig => exact C_law_row
         case zih => exact (hr.mono (by first | decide | omega))
         case zii => exact (by rfl)
         case zij =>
          refine' pa_consN ?zik ?zil
          case zik => exact (pv 0)
          case zil =>
           refine' pa_consS ?zim ?zin
           case zim =>
            refine' pe_ix ?zio ?zip ?ziq ?zir
            case zio => exact (k_ix (K := K) rfl)
            case zip => exact (pe_lst (pa_consK pe_str (pa_consK pe_str pa_nil)))
            case ziq => exact (pe_fn C_law_draw (hr.mono (by first | decide | omega)) (by rfl) (pa_consN (pv 0) (pa_consK pe_int pa_nil)))
            case zir => exact (fun _ _ => rfl)
           case zin => exact (pa_consN (pv 1) (pa_consN (pv 2) (pa_consN (pv 3) pa_nil)))
        case zif => exact pa_nil
     case zhv => exact (pss_one (ps_ret (pv 4)))
  walk_at "rd"
  walk_at "mk"; intro q hq
  have s0 := Same.new (o := .lst []) hq
  have nqb : q ≠ b := fun z => (Bg.ne hq).1 z.symm
  have nql : q ≠ l := fun z => (Bg.ne hq).2 z.symm
  have nqs : sp ≠ q := ne_of_none hsp hq
  walk_at "rd"
  refine irK_of (by omega) (by omega) ?_
  refine for_range (n := (many - 1).toNat) (fun i σ Hx => ∃ rs ys x5 x6, σ = [some (.ref b), some (.int boxes), some (.int many), some (.ref sp), some (.ref q), x5, x6] ∧ Hx q = some (.lst ys) ∧ Reps Hx (rs.map rowD) ys ∧ rs.length = i ∧ (∀ r ∈ rs, RowOk sg boxes many r) ∧ BagAt Hx b l ∧ BSame b H Hx)
    ⟨[], [], none, none, rfl, upd_same, reps_nil, rfl, by simp, Bg.mono s0, (BSame.refl b H).to s0⟩ ?_ ?_
  · rintro i σ Hx hi ⟨rs, ys, x5, x6, rfl, hqx, rr, hl, ok, Bx, bx⟩
    have hyl := rr.length
    rw [List.length_map] at hyl
    walk_at "rd"
    refine use0 (b := fun H Q => ∀ p H', H p = none → H' p = some (.dK lettersKV) → Same H H' → Q (.ref p) H') fun pd H1 hpd hd s1 => ?_
    walk_at "rd"
    refine ⟨pd, lettersKV, rfl, hd, fun pl hpl => ?_⟩
    have s2 := Same.new (o := .lst (lettersKV.map fun q => kV q.1)) hpl
    have B2 := (Bx.mono s1).mono s2
    walk_at "rd"
    refine use2 ⟨b, l, 12, rfl, rfl, ⟨by decide, by decide⟩, B2, fun r H3 r0 r1 B3 b3 => ?_⟩
    have npl : pl ≠ b := fun z => ((Bx.mono s1).ne hpl).1 z.symm
    obtain ⟨r, rfl⟩ := Int.eq_ofNat_of_zero_le r0
    have hr12 : r < lettersL.length := by
      have : lettersL.length = 12 := rfl
      omega
    have ew : (lettersKV.map fun q => kV q.1)[r]? = some (V.str lettersL[r].1) := by
      unfold lettersKV
      rw [List.map_map, List.getElem?_map, List.getElem?_eq_getElem hr12]
      rfl
    refine rd_ixaL (b3 _ _ npl upd_same) (atI_at (n := r) rfl ew) ?_
    walk_at "rd"
    have hqx3 : H3 q = some (.lst ys) := b3 _ _ nqb ((s1.trans s2) _ _ hqx)
    refine ⟨.inl ⟨rfl, ys, SqL.of hqx3⟩, ?_⟩
    walk_at "rd"
    have bb : BSame b H H3 := (bx.to (s1.trans s2)).trans b3
    refine use5 ⟨b, l, lettersL[r].1, lettersL[r].2, boxes, many, sp, xs, sg, rfl, rfl, rfl, rfl, rfl, List.getElem_mem hr12, ⟨b0, by omega⟩, ⟨m0, by omega⟩, bb _ _ nsp hsp, rsg.mono (bb.ts Bg), SG, nsp, B3, fun ps v H4 g4 r4 B4 b4 => ?_⟩
    walk_at "rd"
    have hq4 := b4 _ _ nqb hqx3
    refine rd_append hq4 (Nat.lt_of_le_of_lt (show ys.length ≤ 1000 by omega) (by decide)) ?_
    walk_at "rd"
    have tw : TSame H4 (upd H4 q (.lst (ys ++ [v]))) := TSame.wr (fun zs z => by rw [hq4] at z; cases z)
    refine ⟨rs ++ [(lettersL[r].1, ps)], ys ++ [v], _, _, rfl, upd_same, ?_, by simp [hl], ?_, B4.wr (Ne.symm nqb) (Ne.symm nql), (bb.trans b4).wrNew hq⟩
    · rw [List.map_append]
      exact Reps.append ((((rr.mono (s1.trans s2).ts).mono (b3.ts B2)).mono (b4.ts B3)).mono tw) (reps_cons (r4.mono tw) reps_nil)
    · intro x hx
      rcases List.mem_append.mp hx with hx | hx
      · exact ok x hx
      · obtain rfl := List.mem_singleton.mp hx
        exact ⟨_, g4⟩
  · rintro σ Hx ⟨rs, ys, x5, x6, rfl, hqx, rr, hl, ok, Bx, bx⟩
    have hyl := rr.length
    rw [List.length_map] at hyl
    walk_at "rd"
    refine ⟨.inl ⟨rfl, ys, SqL.of hqx⟩, ?_⟩
    walk_at "rd"
    walk_at "mk"; intro pl hpl
    have s2 := Same.new (o := .lst [V.str "back", V.str "jump"]) hpl
    have B2 := Bx.mono s2
    walk_at "rd"
    refine use2 ⟨b, l, 2, rfl, rfl, ⟨by decide, by decide⟩, B2, fun r H3 r0 r1 B3 b3 => ?_⟩
    have npl : pl ≠ b := fun z => (Bx.ne hpl).1 z.symm
    obtain ⟨wd, ls, tab, hw, ew⟩ : ∃ wd ls, (wd, ls) ∈ lettersL ∧ (wd = "back" ∨ wd = "jump") ∧ atI [V.str "back", V.str "jump"] r = some (.str wd) := by
      rcases (show r = 0 ∨ r = 1 by omega) with rfl | rfl
      · exact ⟨"back", "p", by decide, .inl rfl, rfl⟩
      · exact ⟨"jump", "t", by decide, .inr rfl, rfl⟩
    refine rd_ixaL (b3 _ _ npl upd_same) ew ?_
    walk_at "rd"
    have bb : BSame b H H3 := (bx.to s2).trans b3
    have hqx3 : H3 q = some (.lst ys) := b3 _ _ nqb (s2 _ _ hqx)
    refine use5 ⟨b, l, wd, ls, boxes, many, sp, xs, sg, rfl, rfl, rfl, rfl, rfl, tab, ⟨b0, by omega⟩, ⟨m0, by omega⟩, bb _ _ nsp hsp, rsg.mono (bb.ts Bg), SG, nsp, B3, fun ps v H4 g4 r4 B4 b4 => ?_⟩
    walk_at "rd"
    have hq4 := b4 _ _ nqb hqx3
    refine rd_append hq4 (Nat.lt_of_le_of_lt (show ys.length ≤ 1000 by omega) (by decide)) ?_
    walk_at "rd"
    have tw : TSame H4 (upd H4 q (.lst (ys ++ [v]))) := TSame.wr (fun zs z => by rw [hq4] at z; cases z)
    refine k (rs ++ [(wd, ps)]) q (ys ++ [v]) _ ⟨by simp; omega, ?_, ⟨(wd, ps), by simp, hw⟩⟩ hq nqb nql upd_same ?_ (B4.wr (Ne.symm nqb) (Ne.symm nql)) ((bb.trans b4).wrNew hq)
    · intro x hx
      rcases List.mem_append.mp hx with hx | hx
      · exact ok x hx
      · obtain rfl := List.mem_singleton.mp hx
        exact ⟨_, g4⟩
    · rw [List.map_append]
      exact Reps.append ((((rr.mono s2.ts).mono (b3.ts B2)).mono (b4.ts B3)).mono tw) (reps_cons (r4.mono tw) reps_nil)
noncomputable def sp_signs : Sp := sp2 fun x1 x2 H Q => ∃ b l many, x1 = .ref b ∧ x2 = .int many ∧ (1 ≤ many ∧ many ≤ 6) ∧ BagAt H b l ∧ ∀ sg q ys H', SgOk sg → (sg.length : Int) = many → H q = none → q ≠ b → q ≠ l → H' q = some (.lst ys) → Reps H' (sg.map pairD) ys → BagAt H' b l → BSame b H H' → Q (.ref q) H'
theorem sc__law_signs : FnScope ["bag", "many", "signs", "k", "boxes"] ["bag", "many"] (defScope s__law_signs) := ⟨rfl, rfl, rfl, by decide +kernel, rfl, by decide +kernel, by decide +kernel⟩
theorem c__law_signs (B : Blt mg) (T__law_signs : TopFn K mg "_law_signs" s__law_signs ["bag", "many"]) (C_law_draw : Callee P w K mg base "_law_draw" 1 ["bag", "many"] sp_draw) : Callee P w K mg base "_law_signs" 2 ["bag", "many"] sp_signs := by
  refine T__law_signs.ok2 sc__law_signs fun f cdv A outer s H v1 v2 Q E hr h => ?_
  have nd := sc__law_signs.nd
  obtain ⟨b, l, many, rfl, rfl, ⟨m0, m1⟩, Bg, k⟩ := h
  refine' go_body [some (.ref b), some (.int many), none, none, none] rfl ?hb ?hg
  case hb =>
   refine' pss_cons ?zis ?zit
   case zis =>
    refine' ps_setL (i := 2) ?ziu ?ziv ?ziw ?zix
    case ziu => exact nd
    case ziv => exact rfl
    case ziw => exact (Or.inl rfl)
    case zix =>
     refine' pe_lst ?ziy
     case ziy =>
      refine' pa_consT ?ziz ?zja
      case ziz =>
       refine' pe_tup ?zjb
       case zjb =>
        refine' pa_consK ?zjc ?zjd
        case zjc => exact pe_int
        case zjd => exact (pa_consB (pe_op op_add pe_int (pe_fn C_law_draw (hr.mono (by first | decide | omega)) (by rfl) (pa_consN (pv 0) (pa_consK pe_int pa_nil)))) pa_nil)
      case zja => exact pa_nil
   case zit =>
    refine' pss_cons ?zje ?zjf
    case zje =>
     refine' ps_for ?zjg ?zjh ?zji ?zjj ?zjk
     case zjg => exact PassesOwn.never
     case zjh => exact rfl
     case zji => exact (pi_range1 rfl B.b_range (pa_consB (pe_op op_sub (pv 1) pe_int) pa_nil))
     case zjj => exact (pg_name (i := 3) nd rfl (Or.inl rfl))
     case zjk =>
      refine' pss_cons ?zjl ?zjm
      case zjl =>
       refine' ps_setB (i := 4) ?zjn ?zjo ?zjp ?zjq
       case zjn => exact nd
       case zjo => exact rfl
       case zjp => exact (Or.inl rfl)
       case zjq => exact (pe_op op_add pe_int (pe_fn C_law_draw (hr.mono (by first | decide | omega)) (by rfl) (pa_consN (pv 0) (pa_consK pe_int pa_nil))))
      case zjm =>
       refine' pss_one ?zjr
       case zjr =>
        refine' ps_expr ?zjs
        case zjs =>
         refine' k_bm (K := K) ?zjt ?zju ?zjv ?zjw ?zjx ?zjy ?zjz
         case zjt => exact rfl
         case zju => exact PySem.F.plainAttrs_list
         case zjv => exact PySem.F.slot_list_append
         case zjw => exact PySem.F.type_list_append
         case zjx => exact mt_append
         case zjy => exact (pv 2)
         case zjz =>
          refine' pa_consT ?zka ?zkb
          case zka =>
           refine' pe_tup ?zkc
           case zkc =>
            refine' pa_consC ?zkd ?zke
            case zkd =>
             refine' pe_fn ?zkf ?zkg ?zkh ?zki
             case zkf => exact C_law_draw
             case zkg => exact (hr.mono (by first | decide | omega))
             case zkh => exact (by rfl)
             case zki =>
              refine' pa_consN ?zkj ?zkk
              case zkj => exact (pv 0)
              case zkk => exact (pa_consB (pe_op op_add (pe_callB (call_min' rfl) (by rfl) B.b_min bt_min (pa_consK pe_int (pa_consN (pv 4) pa_nil))) pe_int) pa_nil)
            case zke => exact (pa_consN (pv 4) pa_nil)
          case zkb => exact pa_nil
    case zjf => exact (pss_one (ps_ret (pv 2)))
  walk_at "rd"
  refine use2 ⟨b, l, 8, rfl, rfl, ⟨by decide, by decide⟩, Bg, fun bx H1 x0 x1 B1 b1 => ?_⟩
  walk_at "rd"
  walk_at "mk"; intro t1 ht1
  have s1 := Same.new (o := .tup [V.int 0, V.int (1 + bx)]) ht1
  walk_at "mk"; intro q hq
  have s2 := Same.new (o := .lst [V.ref t1]) hq
  have B2 := (B1.mono s1).mono s2
  have nqb : q ≠ b := fun z => ((B1.mono s1).ne hq).1 z.symm
  have nql : q ≠ l := fun z => ((B1.mono s1).ne hq).2 z.symm
  have hqH : H q = none := (b1.to s1).free nqb hq
  walk_at "rd"
  refine irK_of (by omega) (by omega) ?_
  refine for_range (n := (many - 1).toNat) (fun i σ Hx => ∃ sg ys x3 x4, σ = [some (.ref b), some (.int many), some (.ref q), x3, x4] ∧ Hx q = some (.lst ys) ∧ Reps Hx (sg.map pairD) ys ∧ sg.length = i + 1 ∧ (∃ bx, sg[0]? = some (0, bx)) ∧ (∀ q ∈ sg, 0 ≤ q.1 ∧ q.1 ≤ 4 ∧ q.1 ≤ q.2 ∧ 1 ≤ q.2 ∧ q.2 ≤ 8) ∧ BagAt Hx b l ∧ BSame b H Hx)
    ⟨[(0, 1 + bx)], [V.ref t1], none, none, rfl, upd_same, reps_cons (rep_tup (s2 _ _ upd_same) (reps_cons rep_int (reps_cons rep_int reps_nil))) reps_nil, rfl, ⟨_, rfl⟩, by intro q hq; obtain rfl := List.mem_singleton.mp hq; dsimp only; omega, B2, (b1.to s1).to s2⟩ ?_ ?_
  · rintro i σ Hx hi ⟨sg, ys, x3, x4, rfl, hqx, rr, hl, h0, ok, Bx, bx⟩
    have hyl := rr.length
    rw [List.length_map] at hyl
    walk_at "rd"
    refine use2 ⟨b, l, 8, rfl, rfl, ⟨by decide, by decide⟩, Bx, fun bn H3 y0 y1 B3 b3 => ?_⟩
    walk_at "rd"
    have hqx3 : H3 q = some (.lst ys) := b3 _ _ nqb hqx
    refine ⟨.inl ⟨rfl, ys, SqL.of hqx3⟩, ?_⟩
    walk_at "rd"
    generalize hmn : (if 1 + bn < 4 then 1 + bn else 4) = mn
    have hmn2 : 1 ≤ mn ∧ mn ≤ 4 ∧ mn ≤ 1 + bn := by rw [← hmn]; split <;> omega
    refine use2 ⟨b, l, mn + 1, rfl, rfl, ⟨by omega, by omega⟩, B3, fun tk H4 z0 z1 B4 b4 => ?_⟩
    walk_at "rd"
    walk_at "mk"; intro t2 ht2
    have s4 := Same.new (o := .tup [V.int tk, V.int (1 + bn)]) ht2
    have hq4 := s4 _ _ (b4 _ _ nqb hqx3)
    walk_at "rd"
    refine rd_append hq4 (Nat.lt_of_le_of_lt (show ys.length ≤ 1000 by omega) (by decide)) ?_
    walk_at "rd"
    have tw : TSame (upd H4 t2 (.tup [V.int tk, V.int (1 + bn)])) (upd (upd H4 t2 (.tup [V.int tk, V.int (1 + bn)])) q (.lst (ys ++ [V.ref t2]))) := TSame.wr (fun zs z => by rw [hq4] at z; cases z)
    refine ⟨sg ++ [(tk, 1 + bn)], ys ++ [V.ref t2], _, _, rfl, upd_same, ?_, by simp [hl], ?_, ?_, (B4.mono s4).wr (Ne.symm nqb) (Ne.symm nql), (((bx.trans b3).trans b4).to s4).wrNew hqH⟩
    · rw [List.map_append]
      exact Reps.append ((((rr.mono (b3.ts Bx)).mono (b4.ts B3)).mono s4.ts).mono tw) (reps_cons ((rep_tup upd_same (reps_cons rep_int (reps_cons rep_int reps_nil)) : Rep _ (pairD (tk, 1 + bn)) (.ref t2)).mono tw) reps_nil)
    · obtain ⟨bx0, h0⟩ := h0
      exact ⟨bx0, by rw [List.getElem?_append_left (by omega)]; exact h0⟩
    · intro x hx
      rcases List.mem_append.mp hx with hx | hx
      · exact ok x hx
      · obtain rfl := List.mem_singleton.mp hx
        dsimp only
        omega
  · rintro σ Hx ⟨sg, ys, x3, x4, rfl, hqx, rr, hl, h0, ok, Bx, bx⟩
    walk_at "rd"
    exact k sg q ys _ ⟨by omega, by omega, h0, ok⟩ (by omega) hqH nqb nql hqx rr Bx bx
noncomputable def sp_program : Sp := sp1 fun x1 H Q => ∃ b l, x1 = .ref b ∧ BagAt H b l ∧ ∀ sg ds q vs H', ProgOk sg ds → H q = none → q ≠ b → q ≠ l → H' q = some (.lst vs) → DefsAt [b, q] H' ds vs → BagAt H' b l → BSame b H H' → Q (.ref q) H'
theorem sc__law_program : FnScope ["bag", "big", "many", "signs", "program", "takes", "boxes", "size"] ["bag"] (defScope s__law_program) := ⟨rfl, rfl, rfl, by decide +kernel, rfl, by decide +kernel, by decide +kernel⟩
theorem c__law_program (B : Blt mg) (T__law_program : TopFn K mg "_law_program" s__law_program ["bag"]) (C_law_draw : Callee P w K mg base "_law_draw" 1 ["bag", "many"] sp_draw) (C_law_signs : Callee P w K mg base "_law_signs" 2 ["bag", "many"] sp_signs)
    (C_law_rows : Callee P w K mg base "_law_rows" 5 ["bag", "boxes", "many", "signs"] sp_rows) : Callee P w K mg base "_law_program" 6 ["bag"] sp_program := by
  refine T__law_program.ok1 sc__law_program fun f cdv A outer s H v1 Q E hr h => ?_
  have nd := sc__law_program.nd
  obtain ⟨b, l, rfl, Bg, k⟩ := h
  refine' go_body [some (.ref b), none, none, none, none, none, none, none] rfl ?hb ?hg
  case hb =>
   refine' pss_cons ?zkl ?zkm
   case zkl => exact (ps_setC (i := 1) nd rfl (Or.inl rfl) (pe_fn C_law_draw (hr.mono (by first | decide | omega)) (by rfl) (pa_consN (pv 0) (pa_consK pe_int pa_nil))))
   case zkm =>
    refine' pss_cons ?zkn ?zko
    case zkn =>
     refine' ps_setB (i := 2) ?zkp ?zkq ?zkr ?zks
     case zkp => exact nd
     case zkq => exact rfl
     case zkr => exact (Or.inl rfl)
     case zks => exact (pe_op op_add pe_int (pe_fn C_law_draw (hr.mono (by first | decide | omega)) (by rfl) (pa_consN (pv 0) (pa_consK pe_int pa_nil))))
    case zko =>
     refine' pss_cons ?zkt ?zku
     case zkt =>
      refine' ps_if ?zkv ?zkw ?zkx
      case zkv => exact (pt_cmpR op_eq (pv 1) pe_int (nomark _))
      case zkw =>
       refine' pss_one ?zky
       case zky =>
        refine' ps_setB (i := 2) ?zkz ?zla ?zlb ?zlc
        case zkz => exact nd
        case zla => exact rfl
        case zlb => exact (Or.inl rfl)
        case zlc => exact (pe_op op_add pe_int (pe_fn C_law_draw (hr.mono (by first | decide | omega)) (by rfl) (pa_consN (pv 0) (pa_consK pe_int pa_nil))))
      case zkx => exact pss_nil
     case zku =>
      refine' pss_cons ?zld ?zle
      case zld => exact (ps_setC (i := 3) nd rfl (Or.inl rfl) (pe_fn C_law_signs (hr.mono (by first | decide | omega)) (by rfl) (pa_consN (pv 0) (pa_consN (pv 2) pa_nil))))
      case zle =>
       refine' pss_cons ?zlf ?zlg
       case zlf => exact (ps_setL (i := 4) nd rfl (Or.inl rfl) (pe_lst pa_nil))
       case zlg =>
        refine' pss_cons ?zlh ?zli
        case zlh =>
         refine' ps_for ?zlj ?zlk ?zll ?zlm ?zln
         case zlj => exact PassesOwn.never
         case zlk => exact rfl
         case zll => exact (k_pi_list (K := K) rfl (pv 3))
         case zlm => exact (k_pg_tup (K := K) (n := 2) rfl rfl (pgs_cons (pg_name (i := 5) nd rfl (Or.inl rfl)) (pgs_cons (pg_name (i := 6) nd rfl (Or.inl rfl)) pgs_nil)))
         case zln =>
          refine' pss_cons ?zlo ?zlp
          case zlo =>
           refine' ps_setB (i := 7) ?zlq ?zlr ?zls ?zlt
           case zlq => exact nd
           case zlr => exact rfl
           case zls => exact (Or.inl rfl)
           case zlt =>
            refine' pe_op ?zlu ?zlv ?zlw
            case zlu => exact op_add
            case zlv => exact (pe_op op_add pe_int (pe_fn C_law_draw (hr.mono (by first | decide | omega)) (by rfl) (pa_consN (pv 0) (pa_consK pe_int pa_nil))))
            case zlw =>
             refine' pe_op ?zlx ?zly ?zlz
             case zlx => exact op_fdivB
             case zly => exact (pe_callB (k_len (K := K) rfl) (by rfl) B.b_len bt_len (pa_consS (pe_ix (k_ix (K := K) rfl) (pv 0) pe_int (fun _ _ => rfl)) pa_nil))
             case zlz => exact pe_int
          case zlp =>
           refine' pss_cons ?zma ?zmb
           case zma =>
            refine' ps_if ?zmc ?zmd ?zme
            case zmc =>
             refine' PW.pt ?zmf
             case zmf =>
              refine' pw_or ?zmg ?zmh
              case zmg => exact (pt_cmpR op_eq (pv 1) pe_int (nomark _))
              case zmh =>
               refine' pw_or1 ?zmi
               case zmi =>
                refine' PW.pt ?zmj
                case zmj =>
                 refine' pw_and ?zmk ?zml
                 case zmk => exact (pt_cmpR op_eq (pv 1) pe_int (nomark _))
                 case zml =>
                  refine' pw_and1 ?zmm
                  case zmm => exact (pt_cmpR op_eq (pe_fn C_law_draw (hr.mono (by first | decide | omega)) (by rfl) (pa_consN (pv 0) (pa_consK pe_int pa_nil))) pe_int (nomark _))
            case zmd =>
             refine' pss_one ?zmn
             case zmn =>
              refine' ps_setB (i := 7) ?zmo ?zmp ?zmq ?zmr
              case zmo => exact nd
              case zmp => exact rfl
              case zmq => exact (Or.inl rfl)
              case zmr => exact (pe_op op_add pe_int (pe_fn C_law_draw (hr.mono (by first | decide | omega)) (by rfl) (pa_consN (pv 0) (pa_consK pe_int pa_nil))))
            case zme => exact pss_nil
           case zmb =>
            refine' pss_one ?zms
            case zms =>
             refine' ps_expr ?zmt
             case zmt =>
              refine' k_bm (K := K) ?zmu ?zmv ?zmw ?zmx ?zmy ?zmz ?zna
              case zmu => exact rfl
              case zmv => exact PySem.F.plainAttrs_list
              case zmw => exact PySem.F.slot_list_append
              case zmx => exact PySem.F.type_list_append
              case zmy => exact mt_append
              case zmz => exact (pv 4)
              case zna =>
               refine' pa_consT ?znb ?znc
               case znb =>
                refine' pe_tup ?znd
                case znd =>
                 refine' pa_consN ?zne ?znf
                 case zne => exact (pv 5)
                 case znf =>
                  refine' pa_consN ?zng ?znh
                  case zng => exact (pv 6)
                  case znh =>
                   refine' pa_consC ?zni ?znj
                   case zni => exact (pe_fn C_law_rows (hr.mono (by first | decide | omega)) (by rfl) (pa_consN (pv 0) (pa_consN (pv 6) (pa_consN (pv 7) (pa_consN (pv 3) pa_nil)))))
                   case znj => exact pa_nil
               case znc => exact pa_nil
        case zli => exact (pss_one (ps_ret (pv 4)))
  walk_at "rd"
  refine use2 ⟨b, l, 8, rfl, rfl, ⟨by decide, by decide⟩, Bg, fun big H1 g0 g1 B1 b1 => ?_⟩
  walk_at "rd"
  refine use2 ⟨b, l, 3, rfl, rfl, ⟨by decide, by decide⟩, B1, fun m3 H2 h0 h1 B2 b2 => ?_⟩
  refine rd_I0 (rd_gname ?_)
  dsimp only
  refine rd_meet (fun σ Hx => ∃ many, σ = [some (.ref b), some (.int big), some (.int many), none, none, none, none, none] ∧ 1 ≤ many ∧ many ≤ 6 ∧ BagAt Hx b l ∧ BSame b H Hx) ?rest ?two
  case two =>
    intro N hN
    walk_at "rd"
    refine ite_dd (fun _ => ?_) (fun _ => ?_)
    · walk_at "rd"
      refine use2 ⟨b, l, 6, rfl, rfl, ⟨by decide, by decide⟩, B2, fun m6 H3 i0 i1 B3 b3 => ?_⟩
      walk_at "rd"
      exact hN _ _ ⟨1 + m6, rfl, by omega, by omega, B3, (b1.trans b2).trans b3⟩
    · walk_at "rd"
      exact hN _ _ ⟨1 + m3, rfl, by omega, by omega, B2, b1.trans b2⟩
  case rest =>
    rintro σ Hx ⟨many, rfl, m0, m1, Bx, bx⟩
    walk_at "rd"
    refine use2 ⟨b, l, many, rfl, rfl, ⟨m0, m1⟩, Bx, fun sg sq ys H3 SG sgl hsq nsb nsl hs3 r3 B3 b3 => ?_⟩
    walk_at "rd"
    walk_at "mk"; intro q hq
    have s3 := Same.new (o := .lst []) hq
    have nqb : q ≠ b := fun z => (B3.ne hq).1 z.symm
    have nql : q ≠ l := fun z => (B3.ne hq).2 z.symm
    have bb3 : BSame b H H3 := bx.trans b3
    have hqH : H q = none := bb3.free nqb hq
    have nsq : sq ≠ q := ne_of_none hs3 hq
    have hsl := r3.length
    rw [List.length_map] at hsl
    walk_at "rd"
    refine ilK_of (SqL.of (s3 _ _ hs3)) ?_
    refine for_list (xs := ys) (fun i σ Hy => ∃ ds vs x5 x6 x7, σ = [some (.ref b), some (.int big), some (.int many), some (.ref sq), some (.ref q), x5, x6, x7] ∧ Hy q = some (.lst vs) ∧ DefsAt [b, q] Hy ds vs ∧ Hy sq = some (.lst ys) ∧ Reps Hy (sg.map pairD) ys ∧ ds.map (fun d => (d.1, d.2.1)) = sg.take i ∧
        (∀ d ∈ ds, ∃ many, 1 ≤ many ∧ many ≤ 30 ∧ RowsOk sg d.2.1 many d.2.2) ∧ BagAt Hy b l ∧ BSame b H Hy)
      ⟨[], [], none, none, none, rfl, upd_same, rfl, s3 _ _ hs3, r3.mono s3.ts, rfl, by simp, B3.mono s3, bb3.to s3⟩ (fun i σ Hy _ ⟨_, _, _, _, _, _, _, _, e, _⟩ => SqL.of e) ?_ ?_
    · rintro i x σ Hy hx ⟨ds, vs, x5, x6, x7, rfl, hqy, da, hsy, ry, hm, ok, By, bY⟩
      obtain ⟨d, ed, rd⟩ := ry.get' hx
      rw [List.getElem?_map] at ed
      obtain ⟨p, ep, rfl⟩ := Option.map_eq_some_iff.mp ed
      have pok := SG.all p (List.mem_of_getElem? ep)
      obtain ⟨tp, zs, rfl, htp, rz⟩ := rep_tup_inv rd
      obtain ⟨u1, r1, rfl, e1, rz⟩ := reps_cons_inv rz
      obtain ⟨u2, r2, rfl, e2, rz⟩ := reps_cons_inv rz
      obtain rfl := reps_nil_inv rz
      obtain rfl := rep_int_inv e1
      obtain rfl := rep_int_inv e2
      refine rd_gtup htp rfl ?_
      walk_at "rd"
      refine use2 ⟨b, l, 5, rfl, rfl, ⟨by decide, by decide⟩, By, fun z H4 z0 z1 B4 b4 => ?_⟩
      obtain ⟨cs, ci, cm, cst, cc, hb4, hl4, _, _, _, _, hcs⟩ := B4.ex
      walk_at "rd"
      refine rd_ixaL (v := .ref l) hb4 rfl ?_
      walk_at "rd"
      refine rd_lenL' (SqL.of hl4) ?_
      walk_at "rd"
      refine rd_I (cdivb_of (by decide) (by decide +kernel)) ?_
      rw [List.length_map]
      refine rd_I0 (rd_gname ?_)
      have hdl := da.length
      dsimp only
      refine rd_meet (fun σ Hz => ∃ size, σ = [some (.ref b), some (.int big), some (.int many), some (.ref sq), some (.ref q), some (.int p.1), some (.int p.2), some (.int size)] ∧ 1 ≤ size ∧ size ≤ 30 ∧ BagAt Hz b l ∧ BSame b Hy Hz) ?rest2 ?two2
      case two2 =>
        intro N hN
        have one : ∀ Hw, BagAt Hw b l → BSame b Hy Hw → N [some (.ref b), some (.int big), some (.int many), some (.ref sq), some (.ref q), some (.int p.1), some (.int p.2), some (.int (1 + z + (cs.length : Int) / 8))] Hw := fun Hw Bw bw => hN _ _ ⟨_, rfl, by omega, by omega, Bw, bw⟩
        walk_at "rd"
        refine ite_dd (fun _ => ?_) (fun _ => ?_)
        · walk_at "rd"
          refine use2 ⟨b, l, 30, rfl, rfl, ⟨by decide, by decide⟩, B4, fun t H5 t0 t1 B5 b5 => ?_⟩
          walk_at "rd"
          exact hN _ _ ⟨1 + t, rfl, by omega, by omega, B5, b4.trans b5⟩
        · walk_at "rd"
          refine ite_dd (fun _ => ?_) (fun _ => ?_)
          · walk_at "rd"
            refine use2 ⟨b, l, 4, rfl, rfl, ⟨by decide, by decide⟩, B4, fun u H5 u0 u1 B5 b5 => ?_⟩
            walk_at "rd"
            refine ite_dd (fun _ => ?_) (fun _ => ?_)
            · walk_at "rd"
              refine use2 ⟨b, l, 30, rfl, rfl, ⟨by decide, by decide⟩, B5, fun t H6 t0 t1 B6 b6 => ?_⟩
              walk_at "rd"
              exact hN _ _ ⟨1 + t, rfl, by omega, by omega, B6, (b4.trans b5).trans b6⟩
            · walk_at "rd"
              exact one _ B5 (b4.trans b5)
          · walk_at "rd"
            exact one _ B4 b4
      case rest2 =>
        rintro σ Hz ⟨size, rfl, y0, y1, Bz, bz⟩
        have hqz := bz _ _ nqb hqy
        walk_at "rd"
        refine ⟨.inl ⟨rfl, vs, SqL.of hqz⟩, ?_⟩
        walk_at "rd"
        refine use4 ⟨b, l, p.2, size, sq, ys, sg, rfl, rfl, rfl, rfl, ⟨by omega, by omega⟩, ⟨y0, y1⟩, bz _ _ nsb hsy, ry.mono (bz.ts By), SG, nsb, Bz, fun rs rq zs H5 R5 hrq nrb nrl h5 rr5 B5 b5 => ?_⟩
        walk_at "rd"
        walk_at "mk"; intro t5 ht5
        have s5 := Same.new (o := .tup [V.int p.1, V.int p.2, V.ref rq]) ht5
        have hq5 := s5 _ _ (b5 _ _ nqb hqz)
        walk_at "rd"
        refine rd_append hq5 (Nat.lt_of_le_of_lt (show vs.length ≤ 1000 by have := congrArg List.length hm; simp at this; have := SG.few; omega) (by decide)) ?_
        walk_at "rd"
        have nrq : rq ≠ q := fun e => by rw [e, hqz] at hrq; cases hrq
        have d5 : DefsAt [b, q] _ ds vs := ((((da.bs bz By (by simp)).bs b5 Bz (by simp)).mono s5).wr (o := .lst (vs ++ [V.ref t5])) (by simp) hq5)
        have tw : TSame (upd H5 t5 (.tup [V.int p.1, V.int p.2, V.ref rq])) (upd (upd H5 t5 (.tup [V.int p.1, V.int p.2, V.ref rq])) q (.lst (vs ++ [V.ref t5]))) := TSame.wr (fun zs z => by rw [hq5] at z; cases z)
        have nsq5 : sq ≠ q := nsq
        refine ⟨ds ++ [(p.1, p.2, rs)], vs ++ [V.ref t5], _, _, _, rfl, upd_same, d5.append ⟨_, _, rfl, ⟨t5, rq, zs, rfl, tw _ _ upd_same, ?_, ?_, (rr5.mono s5.ts).mono tw⟩, rfl⟩, ?_, ?_, ?_, ?_, ?_, ?_⟩
        · rw [upd_ne nrq]
          exact s5 _ _ h5
        · simp only [List.mem_cons, List.not_mem_nil, or_false, not_or]
          exact ⟨nrb, nrq⟩
        · rw [upd_ne nsq5]
          exact s5 _ _ (b5 _ _ nsb (bz _ _ nsb hsy))
        · exact (((ry.mono (bz.ts By)).mono (b5.ts Bz)).mono s5.ts).mono tw
        · rw [List.map_append, hm, List.take_add_one, ep]
          rfl
        · intro d hd
          rcases List.mem_append.mp hd with hd | hd
          · exact ok d hd
          · obtain rfl := List.mem_singleton.mp hd
            exact ⟨size, y0, y1, R5⟩
        · exact (B5.mono s5).wr (Ne.symm nqb) (Ne.symm nql)
        · exact (((bY.trans bz).trans b5).to s5).wrNew hqH
    · rintro σ Hy ⟨ds, vs, x5, x6, x7, rfl, hqy, da, hsy, ry, hm, ok, By, bY⟩
      walk_at "rd"
      rw [← hsl, List.take_length] at hm
      exact k sg ds q vs _ ⟨SG, hm, ok⟩ hqH nqb nql hqy da By bY

end
end My

end
section
set_option Elab.async false
set_option linter.all false
set_option maxRecDepth 100000
set_option maxHeartbeats 4000000

namespace My
open PySem L2

section
variable {P : Program} {w : World} {K : PySem.W.Frag} {mg : Str → Option Value} {base : Heap}
noncomputable def AlikeN (H : Hp) : Nat → V → V → Prop
  | 0, _, _ => False
  | n + 1, x, y => (x = y ∧ (x = .non ∨ (∃ i, x = .int i) ∨ ∃ z, x = .str z)) ∨ ∃ a b xs ys, x = .ref a ∧ y = .ref b ∧ ((H a = some (.lst xs) ∧ H b = some (.lst ys)) ∨ (H a = some (.tup xs) ∧ H b = some (.tup ys))) ∧ xs.length = ys.length ∧ xs.length ≤ 1000 ∧ ∀ (i : Nat) u v, xs[i]? = some u → ys[i]? = some v → AlikeN H n u v
noncomputable def spAl (n : Nat) : Sp := sp2 fun x y H Q => AlikeN H n x y ∧ Q (.bl true) H
theorem sc__law_alike : FnScope ["found", "due", "k"] ["found", "due"] (defScope s__law_alike) := ⟨rfl, rfl, rfl, by decide +kernel, rfl, by decide +kernel, by decide +kernel⟩
theorem al_0 (T__law_alike : TopFn K mg "_law_alike" s__law_alike ["found", "due"]) : Callee P w K mg base "_law_alike" 1 ["found", "due"] (spAl 0) :=
  T__law_alike.ok2 sc__law_alike fun f cdv A outer s H v1 v2 Q E hr h => h.1.elim
theorem al_step {n lev : Nat} (B : Blt mg) (T__law_alike : TopFn K mg "_law_alike" s__law_alike ["found", "due"]) (C_law_alike : Callee P w K mg base "_law_alike" lev ["found", "due"] (spAl n)) : Callee P w K mg base "_law_alike" (lev + 1) ["found", "due"] (spAl (n + 1)) := by
  refine T__law_alike.ok2 sc__law_alike fun f cdv A outer s H v1 v2 Q E hr h => ?_
  have nd := sc__law_alike.nd
  obtain ⟨h, k⟩ := h
  refine' go_body [some v1, some v2, none] rfl ?hb ?hg
  case hb =>
   refine' pss_cons ?zb ?zc
   case zb => exact (ps_if (pt_cmpR op_isN' (pv 1) pe_non (nomark _)) (pss_one (ps_ret (pe_cmpR op_isN' (pv 0) pe_non (nomark _)))) pss_nil)
   case zc =>
    refine' pss_cons ?zd ?ze
    case zd =>
     refine' ps_if ?zf ?zg ?zh
     case zf =>
      refine' pt_val ?zi
      case zi =>
       refine' pe_callB ?zj ?zk ?zl ?zm ?zn
       case zj => exact call_isi
       case zk => exact (by rfl)
       case zl => exact B.b_isinstance
       case zm => exact bt_isinstance
       case zn => exact (pa_consN (pv 1) (pa_consN (pe_bltn (v := .ty "bool") (by rfl) B.b_bool bt_bool rfl) pa_nil))
     case zg =>
      refine' pss_one ?zo
      case zo =>
       refine' ps_ret ?zp
       case zp =>
        refine' pe_and ?zq ?zr
        case zq =>
         refine' pe_callB ?zs ?zt ?zu ?zv ?zw
         case zs => exact call_isi
         case zt => exact (by rfl)
         case zu => exact B.b_isinstance
         case zv => exact bt_isinstance
         case zw => exact (pa_consN (pv 0) (pa_consN (pe_bltn (v := .ty "bool") (by rfl) B.b_bool bt_bool rfl) pa_nil))
        case zr => exact (pe_one (pe_cmpR op_eq (pv 0) (pv 1) (nomark _)))
     case zh => exact pss_nil
    case ze =>
     refine' pss_cons ?zx ?zy
     case zx =>
      refine' ps_if ?zz ?zba ?zbb
      case zz =>
       refine' pt_val ?zbc
       case zbc => exact (pe_callB call_isi (by rfl) B.b_isinstance bt_isinstance (pa_consN (pv 1) (pa_consN (pe_bltn (v := .ty "int") (by rfl) B.b_int bt_int rfl) pa_nil)))
      case zba =>
       refine' pss_one ?zbd
       case zbd =>
        refine' ps_ret ?zbe
        case zbe =>
         refine' pe_and ?zbf ?zbg
         case zbf => exact (pe_callB call_isi (by rfl) B.b_isinstance bt_isinstance (pa_consN (pv 0) (pa_consN (pe_bltn (v := .ty "int") (by rfl) B.b_int bt_int rfl) pa_nil)))
         case zbg =>
          refine' pe_and ?zbh ?zbi
          case zbh =>
           refine' pe_not ?zbj
           case zbj =>
            refine' pe_callB ?zbk ?zbl ?zbm ?zbn ?zbo
            case zbk => exact call_isi
            case zbl => exact (by rfl)
            case zbm => exact B.b_isinstance
            case zbn => exact bt_isinstance
            case zbo => exact (pa_consN (pv 0) (pa_consN (pe_bltn (v := .ty "bool") (by rfl) B.b_bool bt_bool rfl) pa_nil))
          case zbi => exact (pe_one (pe_cmpR op_eq (pv 0) (pv 1) (nomark _)))
      case zbb => exact pss_nil
     case zy =>
      refine' pss_cons ?zbp ?zbq
      case zbp =>
       refine' ps_if ?zbr ?zbs ?zbt
       case zbr =>
        refine' pt_val ?zbu
        case zbu => exact (pe_callB call_isi (by rfl) B.b_isinstance bt_isinstance (pa_consN (pv 1) (pa_consN (pe_bltn (v := .ty "str") (by rfl) B.b_str bt_str rfl) pa_nil)))
       case zbs =>
        refine' pss_one ?zbv
        case zbv =>
         refine' ps_ret ?zbw
         case zbw =>
          refine' pe_and ?zbx ?zby
          case zbx => exact (pe_callB call_isi (by rfl) B.b_isinstance bt_isinstance (pa_consN (pv 0) (pa_consN (pe_bltn (v := .ty "str") (by rfl) B.b_str bt_str rfl) pa_nil)))
          case zby => exact (pe_one (pe_cmpR op_eq (pv 0) (pv 1) (nomark _)))
       case zbt => exact pss_nil
      case zbq =>
       refine' pss_cons ?zbz ?zca
       case zbz =>
        refine' ps_if ?zcb ?zcc ?zcd
        case zcb =>
         refine' pt_val ?zce
         case zce =>
          refine' pe_callB ?zcf ?zcg ?zch ?zci ?zcj
          case zcf => exact call_isi
          case zcg => exact (by rfl)
          case zch => exact B.b_isinstance
          case zci => exact bt_isinstance
          case zcj => exact (pa_consN (pv 1) (pa_consN (pe_bltn (v := .ty "tuple") (by rfl) B.b_tuple bt_tuple rfl) pa_nil))
        case zcc =>
         refine' pss_one ?zck
         case zck =>
          refine' ps_if ?zcl ?zcm ?zcn
          case zcl =>
           refine' pt_not ?zco
           case zco =>
            refine' pt_val ?zcp
            case zcp =>
             refine' pe_callB ?zcq ?zcr ?zcs ?zct ?zcu
             case zcq => exact call_isi
             case zcr => exact (by rfl)
             case zcs => exact B.b_isinstance
             case zct => exact bt_isinstance
             case zcu => exact (pa_consN (pv 0) (pa_consN (pe_bltn (v := .ty "tuple") (by rfl) B.b_tuple bt_tuple rfl) pa_nil))
          case zcm => exact (pss_one (ps_ret pe_bl))
          case zcn => exact pss_nil
        case zcd =>
         refine' pss_one ?zcv
         case zcv =>
          refine' ps_if ?zcw ?zcx ?zcy
          case zcw =>
           refine' pt_not ?zcz
           case zcz =>
            refine' pt_val ?zda
            case zda =>
             refine' pe_callB ?zdb ?zdc ?zdd ?zde ?zdf
             case zdb => exact call_isi
             case zdc => exact (by rfl)
             case zdd => exact B.b_isinstance
             case zde => exact bt_isinstance
             case zdf => exact (pa_consN (pv 0) (pa_consN (pe_bltn (v := .ty "list") (by rfl) B.b_list bt_list rfl) pa_nil))
          case zcx => exact (pss_one (ps_ret pe_bl))
          case zcy => exact pss_nil
       case zca =>
        refine' pss_cons ?zdg ?zdh
        case zdg =>
         refine' ps_if ?zdi ?zdj ?zdk
         case zdi =>
          refine' pt_cmpR ?zdl ?zdm ?zdn ?zdo
          case zdl => exact op_ne
          case zdm => exact (pe_callB (k_len (K := K) rfl) (by rfl) B.b_len bt_len (pa_consN (pv 0) pa_nil))
          case zdn => exact (pe_callB (k_len (K := K) rfl) (by rfl) B.b_len bt_len (pa_consN (pv 1) pa_nil))
          case zdo => exact (nomark _)
         case zdj => exact (pss_one (ps_ret pe_bl))
         case zdk => exact pss_nil
        case zdh =>
         refine' pss_cons ?zdp ?zdq
         case zdp =>
          refine' ps_for ?zdr ?zds ?zdt ?zdu ?zdv
          case zdr => exact PassesOwn.never
          case zds => exact rfl
          case zdt => exact (pi_range1 rfl B.b_range (pa_consC (pe_callB (k_len (K := K) rfl) (by rfl) B.b_len bt_len (pa_consN (pv 1) pa_nil)) pa_nil))
          case zdu => exact (pg_name (i := 2) nd rfl (Or.inl rfl))
          case zdv =>
           refine' pss_one ?zdw
           case zdw =>
            refine' ps_if ?zdx ?zdy ?zdz
            case zdx =>
             refine' pt_not ?zea
             case zea =>
              refine' pt_val ?zeb
              case zeb =>
               refine' pe_fn ?zec ?zed ?zee ?zef
               case zec => exact C_law_alike
               case zed => exact (hr.mono (by first | decide | omega))
               case zee => exact (by rfl)
               case zef => exact (pa_consS (pe_ix (k_ix (K := K) rfl) (pv 0) (pv 2) (fun _ _ => rfl)) (pa_consS (pe_ix (k_ix (K := K) rfl) (pv 1) (pv 2) (fun _ _ => rfl)) pa_nil))
            case zdy => exact (pss_one (ps_ret pe_bl))
            case zdz => exact pss_nil
         case zdq => exact (pss_one (ps_ret pe_bl))
  have seq : ∀ (p q : Addr) (xs ys : List V), v1 = .ref p → v2 = .ref q → xs.length = ys.length → xs.length ≤ 1000 → (∀ (i : Nat) u v, xs[i]? = some u → ys[i]? = some v → AlikeN H n u v) →
      (∀ (Q : VK) i v, xs[i]? = some v → Q v H → rIxA K (.ref p) (.int (i : Nat)) H Q) → (∀ (Q : VK) i v, ys[i]? = some v → Q v H → rIxA K (.ref q) (.int (i : Nat)) H Q) → (∀ Q : VK, Q (.int xs.length) H → rLen K [.ref p] H Q) → (∀ Q : VK, Q (.int xs.length) H → rLen K [.ref q] H Q) →
      tSeq (tIfS (tTest (tOp rNe (tCB (rLen K) (tCons (tVar 0) tNil)) (tCB (rLen K) (tCons (tVar 1) tNil)))) (tRet (tC (.bl false))) tNext)
        (tSeq (tFor (iRng1 (tCons (tCB (rLen K) (tCons (tVar 1) tNil)) tNil)) (gName 2) (tIfS (tNot (tB (tCall (spAl n) [] E0 (tCons (tOp (rIxA K) (tVar 0) (tVar 2)) (tCons (tOp (rIxA K) (tVar 1) (tVar 2)) tNil))))) (tRet (tC (.bl false))) tNext)) (tRet (tC (.bl true))))
        { nx := fun _ H' => Q .non H', rt := Q } [some v1, some v2, none] H := by
    intro p q xs ys e1 e2 el hl hd ix iy lx ly
    subst e1; subst e2
    walk_at "rd"
    refine lx _ ?_
    walk_at "rd"
    refine ly _ ?_
    walk_at "rd"
    refine iteNS rfl ?_
    walk_at "rd"
    refine ly _ ?_
    walk_at "rd"
    refine irK_of (by omega) (by omega) ?_
    refine for_range (n := (xs.length : Int).toNat) (fun i σ Hx => (∃ x2, σ = [some (.ref p), some (.ref q), x2]) ∧ Hx = H) ⟨⟨none, rfl⟩, rfl⟩ ?_ ?_
    · rintro i σ Hx hi ⟨⟨x2, rfl⟩, rfl⟩
      have hi' : i < xs.length := by omega
      have eu := List.getElem?_eq_getElem hi'
      have ev := List.getElem?_eq_getElem (el ▸ hi' : i < ys.length)
      walk_at "rd"
      rw [show (0 : Int) + (i : Int) = (i : Int) by omega]
      refine ix _ i _ eu ?_
      walk_at "rd"
      refine iy _ i _ ev ?_
      walk_at "rd"
      refine use2 ⟨hd i _ _ eu ev, ?_⟩
      walk_at "rd"
      exact ⟨⟨_, rfl⟩, rfl⟩
    · rintro σ Hx ⟨⟨x2, rfl⟩, rfl⟩
      walk_at "rd"
      exact k
  rcases h with ⟨rfl, rfl | ⟨i, rfl⟩ | ⟨z, rfl⟩⟩ | ⟨a, b, xs, ys, rfl, rfl, h, el, hl, hd⟩
  · walk_at "rd"
    refine ite_dy rfl ?_
    walk_at "rd"
    exact k
  · walk_at "rd"
    refine ite_dn (by intro z; cases z) ?_
    walk_at "rd"
    refine rd_isi rfl (by simp) (rd_bl (iteF ?_))
    walk_at "rd"
    refine rd_isi rfl (by simp) (rd_bl (iteT ?_))
    walk_at "rd"
    refine rd_isi rfl (by simp) (rd_bl (iteT ?_))
    walk_at "rd"
    refine rd_isi rfl (by simp) (rd_bl (rd_bl (iteT ?_)))
    walk_at "rd"
    rw [decide_eq_true rfl]
    exact k
  · walk_at "rd"
    refine ite_dn (by intro z; cases z) ?_
    walk_at "rd"
    refine rd_isi rfl (by simp) (rd_bl (iteF ?_))
    walk_at "rd"
    refine rd_isi rfl (by simp) (rd_bl (iteF ?_))
    walk_at "rd"
    refine rd_isi rfl (by simp) (rd_bl (iteT ?_))
    walk_at "rd"
    refine rd_isi rfl (by simp) (rd_bl (iteT ?_))
    walk_at "rd"
    rw [decide_eq_true rfl]
    exact k
  · rcases h with ⟨h1, h2⟩ | ⟨h1, h2⟩
    · have t1 := tyN_lst h1
      have t2 := tyN_lst h2
      walk_at "rd"
      refine ite_dn (by intro z; cases z) ?_
      walk_at "rd"
      refine rd_isi t2 (by simp) (rd_bl (iteF ?_))
      walk_at "rd"
      refine rd_isi t2 (by simp) (rd_bl (iteF ?_))
      walk_at "rd"
      refine rd_isi t2 (by simp) (rd_bl (iteF ?_))
      walk_at "rd"
      refine rd_isi t2 (by simp) (rd_bl (iteF ?_))
      walk_at "rd"
      refine rd_isi t1 (by simp) (rd_bl (iteNT ?_))
      refine rd_next ?_
      exact seq a b xs ys rfl rfl el hl hd (fun Q i v e k => rd_ixaL h1 (atI_at rfl e) k) (fun Q i v e k => rd_ixaL h2 (atI_at rfl e) k) (fun Q k => rd_lenL' (SqL.of h1) k) (fun Q k => rd_lenL' (SqL.of h2) (by rw [← el]; exact k))
    · have t1 : tyN H (.ref a) = some "tuple" := by simp [tyN, h1]
      have t2 : tyN H (.ref b) = some "tuple" := by simp [tyN, h2]
      walk_at "rd"
      refine ite_dn (by intro z; cases z) ?_
      walk_at "rd"
      refine rd_isi t2 (by simp) (rd_bl (iteF ?_))
      walk_at "rd"
      refine rd_isi t2 (by simp) (rd_bl (iteF ?_))
      walk_at "rd"
      refine rd_isi t2 (by simp) (rd_bl (iteF ?_))
      walk_at "rd"
      refine rd_isi t2 (by simp) (rd_bl (iteT ?_))
      walk_at "rd"
      refine rd_isi t1 (by simp) (rd_bl (iteNT ?_))
      refine rd_next ?_
      exact seq a b xs ys rfl rfl el hl hd (fun Q i v e k => rd_ixaT h1 (atI_at rfl e) k) (fun Q i v e k => rd_ixaT h2 (atI_at rfl e) k) (fun Q k => rd_lenT' (SqT.of h1) k) (fun Q k => rd_lenT' (SqT.of h2) (by rw [← el]; exact k))
/-- a row is like itself, and a program like its copy -/
theorem al_part {H : Hp} {d : D} {x y : V} (h : PartD 1 d) (r1 : Rep H d x) (r2 : Rep H d y) : AlikeN H 2 x y := by
  cases d with
  | non => simp [PartD] at h
  | bl _ => simp [PartD] at h
  | str _ => simp [PartD] at h
  | int n => obtain rfl := rep_int_inv r1; obtain rfl := rep_int_inv r2; exact .inl ⟨rfl, .inr (.inl ⟨n, rfl⟩)⟩
  | tup ds =>
    obtain ⟨hl, hd⟩ := h
    obtain ⟨a, xs, rfl, ha, rx⟩ := rep_tup_inv r1
    obtain ⟨b, ys, rfl, hb, ry⟩ := rep_tup_inv r2
    refine .inr ⟨a, b, xs, ys, rfl, rfl, .inr ⟨ha, hb⟩, rx.length.symm.trans ry.length, by rw [← rx.length]; exact hl, fun i u v eu ev => ?_⟩
    obtain ⟨d, e1, q1⟩ := rx.get' eu
    obtain ⟨d', e2, q2⟩ := ry.get' ev
    rw [e1] at e2
    cases e2
    obtain ⟨n, rfl⟩ := hd d (List.mem_of_getElem? e1)
    obtain rfl := rep_int_inv q1
    obtain rfl := rep_int_inv q2
    exact .inl ⟨rfl, .inr (.inl ⟨n, rfl⟩)⟩
theorem al_row {H : Hp} {r : Str × List D} {x y : V} (h : ∀ d ∈ r.2, PartD 1 d) (hl : r.2.length < 1000) (r1 : Rep H (rowD r) x) (r2 : Rep H (rowD r) y) : AlikeN H 3 x y := by
  obtain ⟨a, xs, rfl, ha, rx⟩ := rep_tup_inv (show Rep H (.tup (.str r.1 :: r.2)) x from r1)
  obtain ⟨b, ys, rfl, hb, ry⟩ := rep_tup_inv (show Rep H (.tup (.str r.1 :: r.2)) y from r2)
  refine .inr ⟨a, b, xs, ys, rfl, rfl, .inr ⟨ha, hb⟩, rx.length.symm.trans ry.length, by rw [← rx.length]; simp; omega, fun i u v eu ev => ?_⟩
  obtain ⟨d, e1, q1⟩ := rx.get' eu
  obtain ⟨d', e2, q2⟩ := ry.get' ev
  rw [e1] at e2
  cases e2
  cases i with
  | zero =>
    simp at e1
    subst e1
    rw [Rep] at q1 q2
    subst q1; subst q2
    exact .inl ⟨rfl, .inr (.inr ⟨_, rfl⟩)⟩
  | succ i =>
    exact al_part (h d (List.mem_of_getElem? (by simpa using e1))) q1 q2
theorem al_prog {H : Hp} {ds : List PDef} {p q : Addr} {vs ws : List V} (h1 : H p = some (.lst vs)) (h2 : H q = some (.lst ws)) (D1 : DefsAt [] H ds vs) (D2 : DefsAt [] H ds ws) (PD : PgD ds) (hr : ∀ d ∈ ds, ∀ r ∈ d.2.2, r.2.length < 1000) : AlikeN H 6 (.ref p) (.ref q) := by
  refine .inr ⟨p, q, vs, ws, rfl, rfl, .inl ⟨h1, h2⟩, D1.length.symm.trans D2.length, by rw [← D1.length]; exact PD.len, fun i u v eu ev => ?_⟩
  obtain ⟨d, e1, t1, q1, ys1, rfl, a1, b1, _, r1⟩ := D1.get eu
  obtain ⟨d', e2, t2, q2, ys2, rfl, a2, b2, _, r2⟩ := D2.get ev
  rw [e1] at e2
  cases e2
  have hm := List.mem_of_getElem? e1
  refine .inr ⟨t1, t2, _, _, rfl, rfl, .inr ⟨a1, a2⟩, rfl, by simp, fun j u v eu ev => ?_⟩
  match j, eu, ev with
  | 0, eu, ev => simp at eu ev; subst eu; subst ev; exact .inl ⟨rfl, .inr (.inl ⟨_, rfl⟩)⟩
  | 1, eu, ev => simp at eu ev; subst eu; subst ev; exact .inl ⟨rfl, .inr (.inl ⟨_, rfl⟩)⟩
  | 2, eu, ev =>
    simp at eu ev
    subst eu; subst ev
    have l1 := r1.length
    have l2 := r2.length
    rw [List.length_map] at l1 l2
    refine .inr ⟨q1, q2, ys1, ys2, rfl, rfl, .inl ⟨b1, b2⟩, by omega, by have := PD.rows d hm; omega, fun i u v eu ev => ?_⟩
    obtain ⟨x1, f1, g1⟩ := r1.get' eu
    obtain ⟨x2, f2, g2⟩ := r2.get' ev
    rw [f1] at f2
    cases f2
    rw [List.getElem?_map] at f1
    obtain ⟨r, er, rfl⟩ := Option.map_eq_some_iff.mp f1
    have hmr := List.mem_of_getElem? er
    exact al_row (PD.part d hm r hmr).2 (hr d hm r hmr) g1 g2
  | j + 3, eu, ev => simp at eu

noncomputable def sp_copy12 : Sp := sp1 fun x H Q => ∃ p vs ds, x = .ref p ∧ H p = some (.lst vs) ∧ DefsAt [] H ds vs ∧ PgD ds ∧ ∀ q ws H', H' q = some (.lst ws) → DefsAt [] H' ds ws → Same H H' → Q (.ref q) H'
theorem sc__law_copy : FnScope ["program"] ["program"] (defScope s__law_copy) := ⟨rfl, rfl, rfl, by decide +kernel, rfl, by decide +kernel, by decide +kernel⟩
theorem c__law_copy (B : Blt mg) (T__law_copy : TopFn K mg "_law_copy" s__law_copy ["program"]) : Callee P w K mg base "_law_copy" 1 ["program"] sp_copy12 := by
  refine T__law_copy.ok1 sc__law_copy fun f cdv A outer s H v1 Q E hr h => ?_
  have nd := sc__law_copy.nd
  obtain ⟨p, vs, ds, rfl, hp, D0, PD, k⟩ := h
  have hlv := D0.length
  have hl := PD.len
  refine' go_body [some (.ref p)] rfl ?hb ?hg
  case hb =>
   refine' pss_one ?zeg
   case zeg =>
    refine' ps_ret ?zeh
    case zeh =>
     refine' pe_comp (LN := ["takes", "boxes", "rows"]) (FN := []) (fr := []) ?zei ?zej ?zek ?zel ?zem ?zen
     case zei => exact rfl
     case zej => exact (bk_of (by rfl))
     case zek => exact (k_pi_list (K := K) rfl (pv 0))
     case zel =>
      intro cl C fp pins s H
      refine' k_pg_tup (K := K) (n := 3) ?zeo ?zep ?zeq
      case zeo => exact rfl
      case zep => exact rfl
      case zeq =>
       refine' pgs_cons ?zer ?zes
       case zer => exact (pg_name (i := 0) (show ((["takes", "boxes", "rows"] : List Str) ++ ([] : List Str)).Nodup by decide +kernel) rfl (Or.inl rfl))
       case zes =>
        refine' pgs_cons ?zet ?zeu
        case zet => exact (pg_name (i := 1) (show ((["takes", "boxes", "rows"] : List Str) ++ ([] : List Str)).Nodup by decide +kernel) rfl (Or.inl rfl))
        case zeu => exact (pgs_cons (pg_name (i := 2) (show ((["takes", "boxes", "rows"] : List Str) ++ ([] : List Str)).Nodup by decide +kernel) rfl (Or.inl rfl)) pgs_nil)
     case zem =>
      intro cl C fp pins s H
      exact pts_nil
     case zen =>
      intro cl C fp pins s H
      exact (pe_tup (pa_consN (pv 0) (pa_consN (pv 1) (pa_consC (pe_callTy (k_lstOf (K := K) rfl) (by rfl) B.b_list bt_list (pa_consN (pv 2) pa_nil)) pa_nil))))
  walk_at "rd"
  refine ilK_of (SqL.of hp) ?_
  refine cw_list (xs := vs) (small_le' (by omega)) (fun i zs σ Hy => (∃ x1 x2 x3, σ = [x1, x2, x3]) ∧ Same H Hy ∧ DefsAt [] Hy (ds.take i) zs) ⟨⟨none, none, none, rfl⟩, Same.refl _, rfl⟩ (fun i zs σ Hy _ ⟨_, s1, _⟩ => SqL.of (s1 _ _ hp)) ?_ ?_
  · rintro i x zs σ Hy hx hle hlt ⟨⟨x1, x2, x3, rfl⟩, s1, Dz⟩
    obtain ⟨d, ed, t, q, ys, rfl, hat, hq, _, ry⟩ := D0.get hx
    have hyl := ry.length
    rw [List.length_map] at hyl
    have hr0 := PD.rows d (List.mem_of_getElem? ed)
    refine rd_gtup (s1 _ _ hat) rfl ?_
    walk_at "rd"
    refine rd_lstOf (.inl (SqL.of (s1 _ _ hq))) fun p2 hp2 => ?_
    have s2 := Same.new (o := .lst ys) hp2
    have e2 : upd Hy p2 (.lst ys) p2 = some (.lst ys) := upd_same
    generalize upd Hy p2 (.lst ys) = H2 at s2 e2
    walk_at "rd"
    refine ⟨show 3 ≤ PySem.sizeLine by rw [PySem.sizeLine_eq]; decide, fun p3 hp3 => ⟨hlt, by simpa using hle, ⟨_, _, _, rfl⟩, ?_⟩⟩
    have s3 := Same.new (o := .tup [V.int d.1, V.int d.2.1, V.ref p2]) hp3
    have e3 : upd H2 p3 (.tup [V.int d.1, V.int d.2.1, V.ref p2]) p3 = some (.tup [V.int d.1, V.int d.2.1, V.ref p2]) := upd_same
    generalize upd H2 p3 (.tup [V.int d.1, V.int d.2.1, V.ref p2]) = H3 at s3 e3
    have s13 := (s1.trans s2).trans s3
    refine ⟨s13, ?_⟩
    rw [List.take_add_one, ed]
    exact (Dz.mono (s2.trans s3)).append ⟨.ref p3, [], rfl, ⟨p3, p2, ys, rfl, e3, s3 _ _ e2, by simp, ry.mono s13.ts⟩, rfl⟩
  · rintro zs σ Hy hzl ⟨⟨x1, x2, x3, rfl⟩, s1, Dz⟩ pa hpa
    rw [← hlv, List.take_length] at Dz
    exact k pa zs _ upd_same (Dz.mono (Same.new hpa)) (s1.trans (Same.new hpa))

end
end My

end
section
set_option Elab.async false
set_option linter.all false
set_option maxRecDepth 100000
set_option maxHeartbeats 4000000

namespace My
open PySem L2

section
variable {P : Program} {w : World} {K : PySem.W.Frag} {mg : Str → Option Value} {base : Heap}
theorem _root_.L2.RowR.shape {r : Str × List D} (h : RowR r) : (r.1 = callW ∧ ∃ a b qs, r.2 = [.int a, .int b, .tup (qs.map D.int)] ∧ L2.numsOf r = a :: b :: qs) ∨ (r.1 ≠ callW ∧ ∃ ns, r.2 = ns.map D.int ∧ L2.numsOf r = ns) := by
  have e := h.row
  unfold rowP at e
  split at e
  · cases e
  · split at e
    · next ew =>
      generalize hn : L2.numsOf r = ns at e
      rcases ns with _ | ⟨a, _ | ⟨b, qs⟩⟩
      · cases e
      · cases e
      · refine .inl ⟨ew, a, b, qs, ?_, rfl⟩
        exact (congrArg (·.2) (Option.some.inj e)).symm
    · next ew =>
      split at e
      · exact .inr ⟨ew, L2.numsOf r, (congrArg (·.2) (Option.some.inj e)).symm, rfl⟩
      · cases e
/-- how long a row's text may be -/
theorem sum_nums : ∀ {ns : List Int}, (∀ n ∈ ns, Small n) → ((ns.map numS).map (·.length)).sum ≤ 61 * ns.length
  | [], _ => Nat.le_refl _
  | n :: ns, h => by
    have h1 := num_len (h n List.mem_cons_self)
    have h2 := sum_nums fun x hx => h x (List.mem_cons_of_mem _ hx)
    simp only [List.map_cons, List.sum_cons, List.length_cons]
    omega
theorem row_len {wd : Str} {ns : List Int} (hw : wd.length ≤ 10) (h : ∀ n ∈ ns, Small n) : (rowT wd ns).length ≤ 10 + 63 * ns.length := by
  have h1 := StrLaws.join_length_le blank (wd :: ns.map numS)
  have h2 := sum_nums h
  rw [List.map_cons, List.sum_cons, List.length_cons, List.length_map] at h1
  have h3 : blank.length = 1 := by decide
  rw [h3] at h1
  unfold rowT
  cases ns with
  | nil => exact hw
  | cons n ns =>
    simp only [List.length_cons] at h1 h2 ⊢
    omega
theorem itK_of {H : Hp} {R : It → Hp → Prop} {a : Addr} {xs : List V} (h : SqT K H a xs) (q : R (Itt K a) H) : itK K R (.ref a) H := ⟨a, rfl, ⟨xs, h⟩, q⟩
noncomputable def sp_shown_row : Sp := sp2 fun x y H Q => ∃ wd t ns, x = .str wd ∧ wd.length ≤ 10 ∧ y = .ref t ∧ H t = some (.tup (ns.map V.int)) ∧ ns.length ≤ 1000 ∧ (∀ n ∈ ns, Small n) ∧ ∀ H', Same H H' → Q (.str (rowT wd ns)) H'
theorem sc_shown_row : FnScope ["word", "numbers"] ["word", "numbers"] (defScope s_shown_row) := ⟨rfl, rfl, rfl, by decide +kernel, rfl, by decide +kernel, by decide +kernel⟩
theorem c_shown_row (B : Blt mg) (T_shown_row : TopFn K mg "shown_row" s_shown_row ["word", "numbers"]) : Callee P w K mg base "shown_row" 1 ["word", "numbers"] sp_shown_row := by
  refine T_shown_row.ok2 sc_shown_row fun f cdv A outer s H v1 v2 Q E hr h => ?_
  have nd := sc_shown_row.nd
  obtain ⟨wd, t, ns, rfl, hw, rfl, ht, hl, hs, k⟩ := h
  refine' go_body [some (.str wd), some (.ref t)] rfl ?hb ?hg
  case hb =>
   refine' pss_one ?zb
   case zb =>
    refine' ps_ret ?zc
    case zc =>
     refine' k_bm (K := K) ?zd ?ze ?zf ?zg ?zh ?zi ?zj
     case zd => exact rfl
     case ze => exact PySem.F.plainAttrs_str
     case zf => exact PySem.F.slot_str_join
     case zg => exact PySem.F.type_str_join
     case zh => exact (k_join (K := K) rfl)
     case zi => exact pe_str
     case zj =>
      refine' pa_consB ?zk ?zl
      case zk =>
       refine' pe_op ?zm ?zn ?zo
       case zm => exact op_cat
       case zn => exact (pe_lst (pa_consN (pv 0) pa_nil))
       case zo =>
        refine' pe_comp (LN := ["n"]) (FN := []) (fr := []) ?zp ?zq ?zr ?zs ?zt ?zu
        case zp => exact rfl
        case zq => exact (bk_of (by rfl))
        case zr => exact (k_pi_tup (K := K) rfl (pv 1))
        case zs =>
         intro cl C fp pins s H
         exact (pg_name (i := 0) (show ((["n"] : List Str) ++ ([] : List Str)).Nodup by decide +kernel) rfl (Or.inl rfl))
        case zt =>
         intro cl C fp pins s H
         exact pts_nil
        case zu =>
         intro cl C fp pins s H
         exact (pe_callTy call_strI (by rfl) B.b_str bt_str (pa_consN (pv 0) pa_nil))
      case zl => exact pa_nil
  walk_at "rd"
  refine ⟨rfl, ?_⟩
  walk_at "rd"
  walk_at "mk"; intro p0 hp0
  have s0 := Same.new (o := .lst [V.str wd]) hp0
  have e0 : upd H p0 (.lst [V.str wd]) p0 = some (.lst [V.str wd]) := upd_same
  generalize upd H p0 (.lst [V.str wd]) = H0 at s0 e0
  walk_at "rd"
  refine itK_of (SqT.of (s0 _ _ ht)) ?_
  refine cw_tup (xs := ns.map V.int) (small_le' (by rw [List.length_map]; omega)) (fun i ys σ H1 => (∃ x1, σ = [x1]) ∧ H1 = H0 ∧ ys = ((ns.take i).map numS).map V.str) ⟨⟨none, rfl⟩, rfl, rfl⟩ (fun i ys σ H1 _ ⟨_, e, _⟩ => by rw [e]; exact SqT.of (s0 _ _ ht)) ?_ ?_
  · rintro i x ys σ H1 hx hle hlt ⟨⟨x1, rfl⟩, rfl, rfl⟩
    rw [List.getElem?_map] at hx
    obtain ⟨n, en, rfl⟩ := Option.map_eq_some_iff.mp hx
    walk_at "rd"
    refine rd_strI (small_log (hs n (List.mem_of_getElem? en))) ?_
    refine ⟨hlt, by simpa using hle, ⟨_, rfl⟩, rfl, ?_⟩
    rw [List.take_add_one, en]
    simp
    rfl
  rintro ys σ H1 hyl ⟨⟨x1, rfl⟩, rfl, rfl⟩ p1 hp1
  rw [List.length_map, List.take_length] at *
  have s1 := Same.new (o := .lst ((ns.map numS).map V.str)) hp1
  have e1 : upd H1 p1 (.lst ((ns.map numS).map V.str)) p1 = some (.lst ((ns.map numS).map V.str)) := upd_same
  generalize upd H1 p1 (.lst ((ns.map numS).map V.str)) = H2 at s1 e1
  refine rd_cat (s1 _ _ e0) e1 (small_le' (by simp; omega)) fun p2 hp2 => ?_
  walk_at "rd"
  have s2 := Same.new (o := .lst ([V.str wd] ++ (ns.map numS).map V.str)) hp2
  have e2 : upd H2 p2 (.lst ([V.str wd] ++ (ns.map numS).map V.str)) p2 = some (.lst ([V.str wd] ++ (ns.map numS).map V.str)) := upd_same
  have hsum := sum_nums hs
  refine rd_join (zs := wd :: ns.map numS) (SqL.of e2) (by decide) (by simp only [List.map_cons, List.sum_cons, List.length_cons, List.length_map] at hsum ⊢; omega) ?_
  exact k _ ((s0.trans s1).trans s2)
noncomputable def sp_numbers_of : Sp := sp1 fun x H Q => ∃ r, Rep H (rowD r) x ∧ RowR r ∧ (L2.numsOf r).length ≤ 1000 ∧ ∀ t H', H' t = some (.tup ((L2.numsOf r).map V.int)) → Same H H' → Q (.ref t) H'
theorem sc_numbers_of : FnScope ["row"] ["row"] (defScope s_numbers_of) := ⟨rfl, rfl, rfl, by decide +kernel, rfl, by decide +kernel, by decide +kernel⟩
theorem c_numbers_of (B : Blt mg) (T_numbers_of : TopFn K mg "numbers_of" s_numbers_of ["row"]) : Callee P w K mg base "numbers_of" 1 ["row"] sp_numbers_of := by
  refine T_numbers_of.ok1 sc_numbers_of fun f cdv A outer s H v1 Q E hr h => ?_
  have nd := sc_numbers_of.nd
  obtain ⟨⟨w0, ps⟩, rr, RR, hl, k⟩ := h
  have sh := RR.shape
  obtain ⟨t, xs', rfl, ht, rx0⟩ := rep_tup_inv (show Rep H (.tup (.str w0 :: ps)) v1 from rr)
  obtain ⟨u, xs, rfl, ru, rx⟩ := reps_cons_inv rx0
  obtain rfl : u = .str w0 := by rwa [Rep] at ru
  refine' go_body [some (.ref t)] rfl ?hb ?hg
  case hb =>
   refine' pss_cons ?zv ?zw
   case zv =>
    refine' ps_if ?zx ?zy ?zz
    case zx => exact (pt_cmpR op_eq (pe_ix (k_ix (K := K) rfl) (pv 0) pe_int (fun _ _ => rfl)) pe_str (nomark _))
    case zy =>
     refine' pss_one ?zba
     case zba =>
      refine' ps_ret ?zbb
      case zbb =>
       refine' pe_op ?zbc ?zbd ?zbe
       case zbc => exact (k_catW (K := K) rfl)
       case zbd => exact (pe_slice (k_slW (K := K) rfl) (pv 0) (po_some pe_int) (po_some pe_int))
       case zbe => exact (pe_ix (k_ix (K := K) rfl) (pv 0) pe_int (fun _ _ => rfl))
    case zz => exact pss_nil
   case zw => exact (pss_one (ps_ret (pe_slice (k_slT (K := K) rfl) (pv 0) (po_some pe_int) po_none)))
  walk_at "rd"
  refine rd_ixaT ht (v := .str w0) (atI_at (n := 0) rfl rfl) ?_
  walk_at "rd"
  refine ite_dd (fun ec => ?_) (fun ec => ?_)
  · rcases sh with ⟨_, a, b, qs, e2, en⟩ | ⟨n, _⟩
    · obtain rfl : ps = _ := e2
      obtain ⟨v1, r1, rfl, q1, rx⟩ := reps_cons_inv rx
      obtain ⟨v2, r2, rfl, q2, rx⟩ := reps_cons_inv rx
      obtain ⟨v3, r3, rfl, q3, rx⟩ := reps_cons_inv rx
      obtain rfl := reps_nil_inv rx
      obtain rfl := rep_int_inv q1
      obtain rfl := rep_int_inv q2
      obtain ⟨t3, z3, rfl, ht3, rz⟩ := rep_tup_inv q3
      obtain rfl := reps_ints rz
      walk_at "rd"
      refine rd_slW ht fun p1 H1 hp1 s1 => ?_
      walk_at "rd"
      refine rd_ixaT (s1 _ _ ht) (v := .ref t3) (atI_at (n := 3) rfl rfl) ?_
      have hlq : qs.length ≤ 1000 := by rw [en] at hl; simp only [List.length_cons] at hl; omega
      refine rd_catW (xs := [.int a, .int b]) hp1 (s1 _ _ ht3) (by simp; omega) fun p2 H2 hp2 s2 => ?_
      refine k p2 H2 ?_ (s1.trans s2)
      rw [hp2, en]
      rfl
    · exact absurd ec n
  · rcases sh with ⟨e1, _⟩ | ⟨_, ns, e2, en⟩
    · exact absurd e1 ec
    · obtain rfl : ps = _ := e2
      obtain rfl := reps_ints rx
      walk_at "rd"
      refine rd_slT1 ht fun p1 hp1 => ?_
      refine k p1 _ ?_ (Same.new hp1)
      rw [en]
      exact upd_same
/-- a def whose text is asked for -/
structure DefT (d : PDef) : Prop where
  r : DefR d
  n : d.2.2.length ≤ 400
  m : ∀ r ∈ d.2.2, (L2.numsOf r).length ≤ 50
theorem defL_len {d : PDef} (h : DefT d) : ∀ l ∈ defL d, l.length ≤ 3200 := by
  intro l hl
  rcases List.mem_cons.mp hl with rfl | hl
  · have := row_len (wd := defW) (ns := [d.1, d.2.1]) (by decide) (by
      intro n hn
      simp only [List.mem_cons, List.not_mem_nil, or_false] at hn
      rcases hn with rfl | rfl
      · exact h.r.takes
      · exact h.r.boxes)
    simp only [List.length_cons, List.length_nil] at this
    unfold headT
    omega
  · obtain ⟨r, hr, rfl⟩ := List.mem_map.mp hl
    have := row_len (wd := r.1) (ns := L2.numsOf r) (word_free (h.r.rows r hr).row).2.2 (h.r.rows r hr).num
    have := h.m r hr
    omega
theorem sum_le {c : Nat} : ∀ {ls : List Str}, (∀ l ∈ ls, l.length ≤ c) → (ls.map (·.length)).sum ≤ c * ls.length
  | [], _ => Nat.le_refl _
  | l :: ls, h => by
    have h1 := h l List.mem_cons_self
    have h2 := sum_le fun x hx => h x (List.mem_cons_of_mem _ hx)
    simp only [List.map_cons, List.sum_cons, List.length_cons, Nat.mul_add]
    omega
noncomputable def sp_shown_def : Sp := sp1 fun x H Q => ∃ d, DefAt [] H d x ∧ DefT d ∧ ∀ p H', H' p = some (.lst ((defL d).map V.str)) → Same H H' → Q (.ref p) H'
theorem sc_shown_def : FnScope ["one"] ["one"] (defScope s_shown_def) := ⟨rfl, rfl, rfl, by decide +kernel, rfl, by decide +kernel, by decide +kernel⟩
theorem c_shown_def (B : Blt mg) (T_shown_def : TopFn K mg "shown_def" s_shown_def ["one"]) (Cshown_row : Callee P w K mg base "shown_row" 1 ["word", "numbers"] sp_shown_row) (Cnumbers_of : Callee P w K mg base "numbers_of" 1 ["row"] sp_numbers_of) : Callee P w K mg base "shown_def" 2 ["one"] sp_shown_def := by
  refine T_shown_def.ok1 sc_shown_def fun f cdv A outer s H v1 Q E hr h => ?_
  have nd := sc_shown_def.nd
  obtain ⟨d, ⟨t, q, ys, rfl, ht, hq, _, rr⟩, DT, k⟩ := h
  have hyl := rr.length
  rw [List.length_map] at hyl
  have hn := DT.n
  refine' go_body [some (.ref t)] rfl ?hb ?hg
  case hb =>
   refine' pss_one ?zbf
   case zbf =>
    refine' ps_ret ?zbg
    case zbg =>
     refine' pe_op ?zbh ?zbi ?zbj
     case zbh => exact op_cat
     case zbi =>
      refine' pe_lst ?zbk
      case zbk =>
       refine' pa_consC ?zbl ?zbm
       case zbl =>
        refine' pe_fn ?zbn ?zbo ?zbp ?zbq
        case zbn => exact Cshown_row
        case zbo => exact (hr.mono (by first | decide | omega))
        case zbp => exact (by rfl)
        case zbq => exact (pa_consK pe_str (pa_consS (pe_slice (k_slW (K := K) rfl) (pv 0) po_none (po_some pe_int)) pa_nil))
       case zbm => exact pa_nil
     case zbj =>
      refine' pe_comp (LN := ["row"]) (FN := []) (fr := []) ?zbr ?zbs ?zbt ?zbu ?zbv ?zbw
      case zbr => exact rfl
      case zbs => exact (bk_of (by rfl))
      case zbt => exact (k_pi_list (K := K) rfl (pe_ix (k_ix (K := K) rfl) (pv 0) pe_int (fun _ _ => rfl)))
      case zbu =>
       intro cl C fp pins s H
       exact (pg_name (i := 0) (show ((["row"] : List Str) ++ ([] : List Str)).Nodup by decide +kernel) rfl (Or.inl rfl))
      case zbv =>
       intro cl C fp pins s H
       exact pts_nil
      case zbw =>
       intro cl C fp pins s H
       refine' pe_fn ?zbx ?zby ?zbz ?zca
       case zbx => exact Cshown_row
       case zby => exact (hr.mono (by first | decide | omega))
       case zbz => exact (by rfl)
       case zca =>
        refine' pa_consS ?zcb ?zcc
        case zcb => exact (pe_ix (k_ix (K := K) rfl) (pv 0) pe_int (fun _ _ => rfl))
        case zcc => exact (pa_consC (pe_fn Cnumbers_of (hr.mono (by first | decide | omega)) (by rfl) (pa_consN (pv 0) pa_nil)) pa_nil)
  walk_at "rd"
  refine rd_slW ht fun p1 H1 hp1 s1 => ?_
  walk_at "rd"
  refine use2 ⟨defW, p1, [d.1, d.2.1], rfl, by decide, rfl, hp1, by simp, ?_, fun H2 s2 => ?_⟩
  · intro n hn
    simp only [List.mem_cons, List.not_mem_nil, or_false] at hn
    rcases hn with rfl | rfl
    · exact DT.r.takes
    · exact DT.r.boxes
  walk_at "rd"
  walk_at "mk"; intro p3 hp3
  have s3 := Same.new (o := .lst [V.str (headT d)]) hp3
  have e3 : upd H2 p3 (.lst [V.str (headT d)]) p3 = some (.lst [V.str (headT d)]) := upd_same
  change Same H2 (upd H2 p3 (.lst [V.str (rowT defW [d.1, d.2.1])])) at s3
  change upd H2 p3 (.lst [V.str (rowT defW [d.1, d.2.1])]) p3 = _ at e3
  generalize upd H2 p3 (.lst [V.str (rowT defW [d.1, d.2.1])]) = H3 at s3 e3
  have s03 := (s1.trans s2).trans s3
  walk_at "rd"
  refine rd_ixaT (s03 _ _ ht) (v := .ref q) (atI_at (n := 2) rfl rfl) ?_
  refine ilK_of (SqL.of (s03 _ _ hq)) ?_
  refine cw_list (xs := ys) (small_le' (by omega)) (fun i zs σ Hy => (∃ x1, σ = [x1]) ∧ Same H3 Hy ∧ zs = ((d.2.2.take i).map fun (r : Str × List D) => rowT r.1 (L2.numsOf r)).map V.str) ⟨⟨none, rfl⟩, Same.refl _, rfl⟩ (fun i zs σ Hy _ ⟨_, s4, _⟩ => SqL.of (s4 _ _ (s03 _ _ hq))) ?_ ?_
  · rintro i x zs σ Hy hx hle hlt ⟨⟨x1, rfl⟩, s4, rfl⟩
    obtain ⟨d', ed, rd'⟩ := rr.get' hx
    rw [List.getElem?_map] at ed
    obtain ⟨r, er, rfl⟩ := Option.map_eq_some_iff.mp ed
    have hr := DT.r.rows r (List.mem_of_getElem? er)
    have hm := DT.m r (List.mem_of_getElem? er)
    have rd4 := rd'.mono (s03.trans s4).ts
    obtain ⟨a, xs', rfl, ha, rx0⟩ := rep_tup_inv (show Rep Hy (.tup (.str r.1 :: r.2)) x from rd4)
    obtain ⟨u, xs, rfl, ru, rx⟩ := reps_cons_inv rx0
    obtain rfl : u = .str r.1 := by rwa [Rep] at ru
    walk_at "rd"
    refine rd_ixaT ha (v := .str r.1) (atI_at (n := 0) rfl rfl) ?_
    walk_at "rd"
    refine use1 ⟨r, rd4, hr, by omega, fun t5 H5 h5 s5 => ?_⟩
    walk_at "rd"
    refine use2 ⟨r.1, t5, L2.numsOf r, rfl, (word_free hr.row).2.2, rfl, h5, by omega, hr.num, fun H6 s6 => ?_⟩
    refine ⟨hlt, by simpa using hle, ⟨_, rfl⟩, (s4.trans s5).trans s6, ?_⟩
    rw [List.take_add_one, er]
    simp
  rintro zs σ Hy _ ⟨⟨x1, rfl⟩, s4, rfl⟩ p5 hp5
  have e0 : (d.2.2.take ys.length) = d.2.2 := by rw [← hyl, List.take_length]
  rw [e0] at *
  generalize hzs : (d.2.2.map fun (r : Str × List D) => rowT r.1 (L2.numsOf r)) = zs at *
  have s5 := Same.new (o := .lst (zs.map V.str)) hp5
  have e5 : upd Hy p5 (.lst (zs.map V.str)) p5 = some (.lst (zs.map V.str)) := upd_same
  generalize upd Hy p5 (.lst (zs.map V.str)) = H5 at s5 e5
  have hzl : zs.length = d.2.2.length := by rw [← hzs, List.length_map]
  refine rd_cat (s5 _ _ (s4 _ _ e3)) e5 (small_le' (by simp; omega)) fun p6 hp6 => ?_
  refine k p6 _ ?_ (((s03.trans s4).trans s5).trans (Same.new hp6))
  rw [upd_same]
  unfold defL
  rw [hzs]
  rfl
noncomputable def sp_shown : Sp := sp1 fun x H Q => ∃ p vs ds, x = .ref p ∧ H p = some (.lst vs) ∧ DefsAt [] H ds vs ∧ (∀ d ∈ ds, DefT d) ∧ ((ds.map defL).flatten).length ≤ 300 ∧ ∀ H', Same H H' → Q (.str (progT ds)) H'
theorem join_len {c : Nat} {ls : List Str} (h : ∀ l ∈ ls, l.length ≤ c) : (Str.join feed ls).length ≤ (c + 1) * ls.length := by
  have h1 := StrLaws.join_length_le feed ls
  have h2 := sum_le h
  have h3 : feed.length = 1 := by decide
  rw [h3] at h1
  rw [Nat.add_mul]
  omega
theorem sc_shown : FnScope ["program"] ["program"] (defScope s_shown) := ⟨rfl, rfl, rfl, by decide +kernel, rfl, by decide +kernel, by decide +kernel⟩
theorem c_shown (B : Blt mg) (T_shown : TopFn K mg "shown" s_shown ["program"]) (Cshown_def : Callee P w K mg base "shown_def" 2 ["one"] sp_shown_def) : Callee P w K mg base "shown" 3 ["program"] sp_shown := by
  refine T_shown.ok1 sc_shown fun f cdv A outer s H v1 Q E hr h => ?_
  have nd := sc_shown.nd
  obtain ⟨p, vs, ds, rfl, hp, D0, DT, hn, k⟩ := h
  have hlv := D0.length
  have hdl : ds.length ≤ ((ds.map defL).flatten).length := by
    clear hn k D0 hlv DT
    induction ds with
    | nil => exact Nat.le_refl _
    | cons d ds ih =>
      rw [List.map_cons, List.flatten_cons, List.length_append]
      simp only [List.length_cons, defL]
      omega
  have hall : ∀ l ∈ (ds.map defL).flatten, l.length ≤ 3200 := by
    intro l hl
    obtain ⟨m, hm, hl⟩ := List.mem_flatten.mp hl
    obtain ⟨d, hd, rfl⟩ := List.mem_map.mp hm
    exact defL_len (DT d hd) l hl
  refine' go_body [some (.ref p)] rfl ?hb ?hg
  case hb =>
   refine' pss_one ?zcd
   case zcd =>
    refine' ps_ret ?zce
    case zce =>
     refine' k_bm (K := K) ?zcf ?zcg ?zch ?zci ?zcj ?zck ?zcl
     case zcf => exact rfl
     case zcg => exact PySem.F.plainAttrs_str
     case zch => exact PySem.F.slot_str_join
     case zci => exact PySem.F.type_str_join
     case zcj => exact (k_join (K := K) rfl)
     case zck => exact pe_str
     case zcl =>
      refine' pa_consM ?zcm ?zcn
      case zcm =>
       refine' pe_comp (LN := ["one"]) (FN := []) (fr := []) ?zco ?zcp ?zcq ?zcr ?zcs ?zct
       case zco => exact rfl
       case zcp => exact (bk_of (by rfl))
       case zcq => exact (k_pi_list (K := K) rfl (pv 0))
       case zcr =>
        intro cl C fp pins s H
        exact (pg_name (i := 0) (show ((["one"] : List Str) ++ ([] : List Str)).Nodup by decide +kernel) rfl (Or.inl rfl))
       case zcs =>
        intro cl C fp pins s H
        exact pts_nil
       case zct =>
        intro cl C fp pins s H
        refine' k_bm (K := K) ?zcu ?zcv ?zcw ?zcx ?zcy ?zcz ?zda
        case zcu => exact rfl
        case zcv => exact PySem.F.plainAttrs_str
        case zcw => exact PySem.F.slot_str_join
        case zcx => exact PySem.F.type_str_join
        case zcy => exact (k_join (K := K) rfl)
        case zcz => exact pe_str
        case zda => exact (pa_consC (pe_fn Cshown_def (hr.mono (by first | decide | omega)) (by rfl) (pa_consN (pv 0) pa_nil)) pa_nil)
      case zcn => exact pa_nil
  walk_at "rd"
  refine ⟨rfl, ?_⟩
  walk_at "rd"
  refine ilK_of (SqL.of hp) ?_
  refine cw_list (xs := vs) (small_le' (by omega)) (fun i zs σ Hy => (∃ x1, σ = [x1]) ∧ Same H Hy ∧ zs = ((ds.take i).map fun d => Str.join feed (defL d)).map V.str) ⟨⟨none, rfl⟩, Same.refl _, rfl⟩ (fun i zs σ Hy _ ⟨_, s1, _⟩ => SqL.of (s1 _ _ hp)) ?_ ?_
  · rintro i x zs σ Hy hx hle hlt ⟨⟨x1, rfl⟩, s1, rfl⟩
    obtain ⟨d, ed, DA⟩ := D0.get hx
    have hd := DT d (List.mem_of_getElem? ed)
    walk_at "rd"
    refine ⟨rfl, ?_⟩
    walk_at "rd"
    refine use1 ⟨d, DA.by (fun a xs _ e => s1 _ _ e) s1.ts, hd, fun p2 H2 h2 s2 => ?_⟩
    have h3 := sum_le (defL_len hd)
    have h4 : (defL d).length ≤ ((ds.map defL).flatten).length := by
      have : List.Sublist (defL d) ((ds.map defL).flatten) := List.sublist_flatten_of_mem (List.mem_map.mpr ⟨d, List.mem_of_getElem? ed, rfl⟩)
      exact this.length_le
    walk_at "rd"
    refine rd_join (zs := defL d) (SqL.of h2) (by decide) (by omega) ?_
    refine ⟨hlt, by simpa using hle, ⟨_, rfl⟩, s1.trans s2, ?_⟩
    rw [List.take_add_one, ed]
    simp
    rfl
  rintro zs σ Hy hyy ⟨⟨x1, rfl⟩, s1, rfl⟩ p2 hp2
  clear hyy
  have e0 : (ds.take vs.length) = ds := by rw [← hlv, List.take_length]
  rw [e0]
  have hs2 : ((ds.map fun d => Str.join feed (defL d)).map (·.length)).sum ≤ 3201 * ((ds.map defL).flatten).length := by
    clear hdl hn k D0 hlv e0 hp2 s1 hp
    induction ds with
    | nil => exact Nat.le_refl _
    | cons d ds ih =>
      have h1 := join_len (defL_len (DT d List.mem_cons_self))
      have h2 := ih (fun x hx => DT x (List.mem_cons_of_mem _ hx)) (fun l hl => hall l (by rw [List.map_cons, List.flatten_cons]; exact List.mem_append_right _ hl))
      rw [List.map_cons, List.map_cons, List.sum_cons, List.map_cons, List.flatten_cons, List.length_append, Nat.mul_add]
      exact Nat.add_le_add h1 h2
  walk_at "rd"
  refine rd_join (zs := ds.map fun d => Str.join feed (defL d)) (SqL.of upd_same) (by decide) (by rw [List.length_map]; omega) ?_
  exact k _ (s1.trans (Same.new hp2))

end
end My

end
section
set_option Elab.async false
set_option linter.all false
set_option maxRecDepth 100000
set_option maxHeartbeats 4000000

namespace My
open PySem L2

section
variable {P : Program} {w : World} {K : PySem.W.Frag} {mg : Str → Option Value} {base : Heap}
theorem meet_ifE {c : TT} {ta tb : TE} {σ : St} {H : Hp} {Q : VK} (I : V → Prop) (hI : ∀ v, I v → Q v H) (h : ∀ N : VK, (∀ v, I v → N v H) → tIf c ta tb σ H N) : tIf c ta tb σ H Q := h Q hI
theorem big_le {n : Nat} (h : n ≤ 1000000) : n ≤ PySem.sizeLine := by rw [PySem.sizeLine_eq]; omega
theorem rd_lenS' {H : Hp} {x : Str} {Q : VK} (h : x.length ≤ PySem.sizeLine) (q : Q (.int x.length) H) : rLen K [.str x] H Q := ⟨_, _, rfl, ⟨h, rfl⟩, q⟩
noncomputable def sp_read_whole (C : Addr) : Sp := spX2 fun x y H Q E => ∃ z most, x = .str z ∧ y = .int (most : Nat) ∧ most ≤ 600 ∧ z.length ≤ 900000 ∧ isAsc z ∧ (∀ n H', wholeP most z = some n → Same H H' → Q (.int n) H') ∧ ∀ H', wholeP most z = none → Same H H' → E (.ref C) none H'
theorem sc_read_whole : FnScope ["text", "most", "figures"] ["text", "most"] (defScope s_read_whole) := ⟨rfl, rfl, rfl, by decide +kernel, rfl, by decide +kernel, by decide +kernel⟩
theorem c_read_whole {C_NoText C_LaneError C_NotFormed C_Faulty : Addr} (B : Blt mg) (G : Glb K w mg) (HX : ExH K mg C_NoText C_LaneError C_NotFormed C_Faulty) (T_read_whole : TopFn K mg "read_whole" s_read_whole ["text", "most"]) : CalleeX P w K mg base C_NoText "read_whole" 1 ["text", "most"] (sp_read_whole C_NoText) := by
  refine T_read_whole.okX2 sc_read_whole fun f cdv A outer s H v1 v2 Q E hr h => ?_
  have nd := sc_read_whole.nd
  obtain ⟨z, most, rfl, rfl, hm, hz, az, k, no⟩ := h
  have hl := cs_len z
  refine' go_bodyX [some (.str z), some (.int (most : Nat)), none] rfl ?hb ?hg
  case hb =>
   refine' pss_cons ?zb ?zc
   case zb =>
    refine' ps_set (i := 2) ?zd ?ze ?zf ?zg
    case zd => exact nd
    case ze => exact rfl
    case zf => exact (Or.inl rfl)
    case zg =>
     refine' pe_ifExp ?zh ?zi ?zj
     case zh => exact (pt_val (k_bm (K := K) rfl PySem.F.plainAttrs_str PySem.F.slot_str_startswith PySem.F.type_str_startswith mt_starts (pv 0) (pa_consK pe_str pa_nil)))
     case zi => exact (pe_slice sl_str (pv 0) (po_some pe_int) po_none)
     case zj => exact (pv 0)
   case zc =>
    refine' pss_cons ?zk ?zl
    case zk =>
     refine' ps_if ?zm ?zn ?zo
     case zm =>
      refine' pt_not ?zp
      case zp =>
       refine' PW.pt ?zq
       case zq =>
        refine' pw_and ?zr ?zs
        case zr => exact (pt_chain op_le op_le pe_int (pe_callB (k_len (K := K) rfl) (by rfl) B.b_len bt_len (pa_consN (pv 2) pa_nil)) (pv 1))
        case zs =>
         refine' pw_and1 ?zt
         case zt =>
          refine' pt_val ?zu
          case zu =>
           refine' pe_callB ?zv ?zw ?zx ?zy ?zz
           case zv => exact (k_all (K := K) rfl rfl)
           case zw => exact (by rfl)
           case zx => exact B.b_all
           case zy => exact bt_all
           case zz =>
            refine' pa_consM ?zba ?zbb
            case zba =>
             refine' pe_comp (LN := ["sign"]) (FN := []) (fr := []) ?zbc ?zbd ?zbe ?zbf ?zbg ?zbh
             case zbc => exact rfl
             case zbd => exact (bk_of (by rfl))
             case zbe => exact (k_pi_str (K := K) rfl (pv 2))
             case zbf =>
              intro cl C fp pins s H
              exact (pg_name (i := 0) (show ((["sign"] : List Str) ++ ([] : List Str)).Nodup by decide +kernel) rfl (Or.inl rfl))
             case zbg =>
              intro cl C fp pins s H
              exact pts_nil
             case zbh =>
              intro cl C fp pins s H
              exact (pe_cmpR op_inS (pv 0) (pe_cstr (by rfl) G.c_FIGURES) (by with_unfolding_all rfl))
            case zbb => exact pa_nil
     case zn => exact (pss_one (ps_raise (by rfl) HX.m_NoText HX.exc (pa_consK pe_str pa_nil)))
     case zo => exact pss_nil
    case zl =>
     refine' pss_cons ?zbi ?zbj
     case zbi =>
      refine' ps_if ?zbk ?zbl ?zbm
      case zbk => exact (PW.pt (pw_and (pt_cmpR op_eq (pe_ix ix_str (pv 2) pe_int (fun _ _ => rfl)) pe_str (nomark _)) (pw_and1 (pt_cmpR op_ne (pv 0) pe_str (nomark _)))))
      case zbl => exact (pss_one (ps_raise (by rfl) HX.m_NoText HX.exc (pa_consK pe_str pa_nil)))
      case zbm => exact pss_nil
     case zbj => exact (pss_one (ps_ret (pe_callTy call_intT (by rfl) B.b_int bt_int (pa_consN (pv 0) pa_nil))))
  refine rd_seq ?_
  refine rd_asg ?_
  refine meet_ifE (fun v => ∃ fz : Str, v = .str fz ∧ cs fz = figT z ∧ isAsc fz) ?_ fun N hN => ?_
  rotate_left
  · walk_at "rd"
    refine ⟨rfl, ?_⟩
    walk_at "rd"
    rw [show Txt.startswith z (Str.ofString "-") = decide ((cs z).head? = some 45) from starts_minus z]
    refine ite_dd (fun hd => ?_) (fun hd => ?_)
    · walk_at "rd"
      have h1 : 1 ≤ z.length := by
        rw [← hl]
        cases ez : cs z with
        | nil => rw [ez] at hd; cases hd
        | cons c r => simp
      have es : cs (Txt.slice z (some 1) none) = figT z := by
        rw [slice1 z h1]
        unfold figT
        rw [if_pos hd]
      refine ⟨z, rfl, (big_le (by omega)), hN _ ⟨_, rfl, es, asc_mem.mpr fun c hc => ?_⟩⟩
      rw [slice1 z h1] at hc
      exact asc_mem.mp az c (List.mem_of_mem_drop hc)
    · walk_at "rd"
      exact hN _ ⟨z, rfl, by unfold figT; rw [if_neg hd], az⟩
  rintro v ⟨fz, rfl, ef, af⟩
  have hfl := cs_len fz
  have hfz : fz.length ≤ 900000 := by
    rw [← hfl, ef]
    unfold figT
    split
    · rw [List.length_drop]; omega
    · omega
  have bad : ∀ H', ¬ ((1 ≤ (figT z).length ∧ (figT z).length ≤ most) ∧ (figT z).all isFig = true) → Same H H' → E (.ref C_NoText) none H' := fun H' h s' => no H' (by unfold wholeP; rw [if_neg h]) s'
  walk_at "rd"
  refine rd_lenS' ((big_le (by omega))) ?_
  walk_at "rd"
  refine ite_dd (fun h1 => ?_) (fun h1 => ?_)
  rotate_left
  · walk_at "rd"
    exact ⟨by decide, bad _ (fun h => h1 (by rw [← ef, hfl] at h; omega)) (Same.refl _)⟩
  walk_at "rd"
  refine ite_dd (fun h2 => ?_) (fun h2 => ?_)
  rotate_left
  · walk_at "rd"
    exact ⟨by decide, bad _ (fun h => h2 (by rw [← ef, hfl] at h; omega)) (Same.refl _)⟩
  walk_at "rd"
  refine rd_istr ?_
  walk_at "rd"
  refine ⟨fz, rfl, af, ?_⟩
  refine cw_str ((big_le (by show fz.length ≤ _; omega))) (fun i ys σ Hy => (∃ x1, σ = [x1]) ∧ Hy = H ∧ ys = ((cs fz).take i).map fun c => V.bl (isFig c)) ⟨⟨none, rfl⟩, rfl, rfl⟩ ?_ ?_
  · rintro i c ys σ Hy hc hle hlt ⟨⟨x1, rfl⟩, rfl, rfl⟩
    walk_at "rd"
    refine rd_inS1 ?_
    refine ⟨hlt, by simpa using hle, ⟨_, rfl⟩, rfl, ?_⟩
    have hc' : (cs fz)[i]? = some c := by rw [Array.getElem?_toList]; exact hc
    rw [List.take_add_one, hc']
    have : isFig c = decide (c ∈ (Str.ofString "0123456789").cps.toList) := by
      have e : (Str.ofString "0123456789").cps.toList = [48, 49, 50, 51, 52, 53, 54, 55, 56, 57] := by decide
      rw [e, Bool.eq_iff_iff]
      simp [isFig]
      omega
    simp [this]
  rintro ys σ Hy _ ⟨⟨x1, rfl⟩, rfl, rfl⟩ p hp
  rw [show fz.cps.size = (cs fz).length from hfl.symm, List.take_length]
  have s1 := Same.new (o := .lst ((cs fz).map fun c => V.bl (isFig c))) hp
  have e1 : upd Hy p (.lst ((cs fz).map fun c => V.bl (isFig c))) p = some (.lst ((cs fz).map fun c => V.bl (isFig c))) := upd_same
  generalize upd Hy p (.lst ((cs fz).map fun c => V.bl (isFig c))) = H1 at s1 e1
  walk_at "rd"
  refine ⟨p, (cs fz).map isFig, rfl, SqL.of (by rw [e1, List.map_map]; rfl), ?_⟩
  walk_at "rd"
  have ea : ((cs fz).map isFig).all id = (figT z).all isFig := by rw [ef, List.all_map]; rfl
  rw [ea]
  cases hall : (figT z).all isFig with
  | false =>
    walk_at "rd"
    exact ⟨by decide, bad _ (fun h => by rw [hall] at h; exact absurd h.2 (by decide)) s1⟩
  | true =>
    walk_at "rd"
    have hcond : (1 ≤ (figT z).length ∧ (figT z).length ≤ most) ∧ (figT z).all isFig = true := ⟨by rw [← ef, hfl]; omega, hall⟩
    obtain ⟨c, r, ec⟩ : ∃ c r, cs fz = c :: r := by
      cases h : cs fz with
      | nil => rw [h] at hfl; simp at hfl; omega
      | cons c r => exact ⟨c, r, rfl⟩
    refine ⟨fz, 0, c, rfl, rfl, (big_le (by omega)), atI_at (n := 0) rfl (by show (cs fz)[0]? = _; rw [ec]; rfl), ?_⟩
    walk_at "rd"
    obtain ⟨hzl, n', hn'⟩ := whole_some hm hcond.1 hcond.2
    have fin : ¬ ((figT z).head? = some 48 ∧ cs z ≠ [48]) → wholeP most z = some n' := fun h => by
      unfold wholeP
      rw [if_pos hcond, if_neg h]
      exact hn'
    have hz0 : z = Str.ofString "0" ↔ cs z = [48] := ⟨fun e => by rw [e]; decide, fun e => cs_inj (by rw [e]; decide)⟩
    have hc0 : (⟨#[c]⟩ : Str) = Str.ofString "0" ↔ (figT z).head? = some 48 := by
      rw [← ef, ec]
      constructor
      · intro e
        have := congrArg cs e
        have h2 : [c] = [48] := this.trans (by decide)
        rw [(List.cons.inj h2).1]
        rfl
      · intro e
        cases e
        decide
    refine ite_dd (fun h3 => ?_) (fun h3 => ?_)
    · walk_at "rd"
      refine ite_nd (fun h4 => ?_) (fun h4 => ?_)
      · walk_at "rd"
        exact ⟨by decide, no _ (by unfold wholeP; rw [if_pos hcond, if_pos ⟨hc0.mp h3, fun e => h4 (hz0.mpr e)⟩]) s1⟩
      · walk_at "rd"
        refine rd_intT hn' (by omega) ?_
        exact k _ _ (fin fun h => h.2 (hz0.mp h4)) s1
    · walk_at "rd"
      refine rd_intT hn' (by omega) ?_
      exact k _ _ (fin fun h => h3 (hc0.mpr h.1)) s1

end
end My

end
section
set_option Elab.async false
set_option linter.all false
set_option maxRecDepth 100000
set_option maxHeartbeats 4000000

namespace My
open PySem L2

section
variable {P : Program} {w : World} {K : PySem.W.Frag} {mg : Str → Option Value} {base : Heap}
noncomputable def sp_read_head (C : Addr) : Sp := spX1 fun x H Q E => ∃ a ns, x = .ref a ∧ H a = some (.lst (ns.map V.int)) ∧ ns.length ≤ 1000000 ∧ (∀ t b : Int, ns = [t, b] → ∀ p q H', H' p = some (.tup [.int t, .int b, .ref q]) → H' q = some (.lst []) → H q = none → Same H H' → Q (.ref p) H') ∧ (ns.length ≠ 2 → ∀ H', Same H H' → E (.ref C) none H')
theorem sc_read_head : FnScope ["numbers"] ["numbers"] (defScope s_read_head) := ⟨rfl, rfl, rfl, by decide +kernel, rfl, by decide +kernel, by decide +kernel⟩
theorem c_read_head {C_NoText C_LaneError C_NotFormed C_Faulty : Addr} (B : Blt mg) (HX : ExH K mg C_NoText C_LaneError C_NotFormed C_Faulty) (T_read_head : TopFn K mg "read_head" s_read_head ["numbers"]) : CalleeX P w K mg base C_NoText "read_head" 1 ["numbers"] (sp_read_head C_NoText) := by
  refine T_read_head.okX1 sc_read_head fun f cdv A outer s H v1 Q E hr h => ?_
  have nd := sc_read_head.nd
  obtain ⟨a, ns, rfl, ha, hl, k, no⟩ := h
  refine' go_bodyX [some (.ref a)] rfl ?hb ?hg
  case hb =>
   refine' pss_cons ?zb ?zc
   case zb =>
    refine' ps_if ?zd ?ze ?zf
    case zd => exact (pt_cmpR op_ne (pe_callB (k_len (K := K) rfl) (by rfl) B.b_len bt_len (pa_consN (pv 0) pa_nil)) pe_int (nomark _))
    case ze => exact (pss_one (ps_raise (by rfl) HX.m_NoText HX.exc (pa_consK pe_str pa_nil)))
    case zf => exact pss_nil
   case zc =>
    refine' pss_one ?zg
    case zg =>
     refine' ps_ret ?zh
     case zh =>
      refine' pe_tup ?zi
      case zi =>
       refine' pa_consS ?zj ?zk
       case zj => exact (pe_ix (k_ix (K := K) rfl) (pv 0) pe_int (fun _ _ => rfl))
       case zk => exact (pa_consS (pe_ix (k_ix (K := K) rfl) (pv 0) pe_int (fun _ _ => rfl)) (pa_consL (pe_lst pa_nil) pa_nil))
  walk_at "rd"
  refine rd_lenL' (SqL.of ha) ?_
  walk_at "rd"
  refine ite_nd (fun h1 => ?_) (fun h1 => ?_)
  · walk_at "rd"
    refine ⟨by decide, no (fun e => h1 (by rw [List.length_map, e]; rfl)) _ (Same.refl _)⟩
  rw [List.length_map] at h1
  obtain ⟨t, b, rfl⟩ : ∃ t b, ns = [t, b] := by
    rcases ns with _ | ⟨t, _ | ⟨b, _ | ⟨b2, r2⟩⟩⟩
    · simp at h1
    · simp at h1
    · exact ⟨t, b, rfl⟩
    · simp only [List.length_cons] at h1; omega
  have k := k t b rfl
  walk_at "rd"
  refine rd_ixaL ha (v := .int t) (atI_at (n := 0) rfl rfl) ?_
  walk_at "rd"
  refine rd_ixaL ha (v := .int b) (atI_at (n := 1) rfl rfl) ?_
  walk_at "rd"
  walk_at "mk"; intro q hq
  have s0 := Same.new (o := .lst []) hq
  have e0 : upd H q (.lst []) q = some (.lst []) := upd_same
  generalize upd H q (.lst []) = H0 at s0 e0
  walk_at "rd"
  walk_at "mk"; intro p hp
  have s1 := Same.new (o := .tup [V.int t, V.int b, V.ref q]) hp
  exact k p q _ upd_same (s1 _ _ e0) hq (s0.trans s1)
theorem ints_reps {H : Hp} : ∀ (ns : List Int), Reps H (ns.map D.int) (ns.map V.int)
  | [] => reps_nil
  | n :: ns => reps_cons rep_int (ints_reps ns)
noncomputable def sp_read_call (C : Addr) : Sp := spX1 fun x H Q E => ∃ a ns, x = .ref a ∧ H a = some (.lst (ns.map V.int)) ∧ ns.length ≤ 1000000 ∧ (∀ (c b : Int) (qs : List Int), ns = c :: b :: qs → ∀ v H', Rep H' (rowD (callW, [.int c, .int b, .tup (qs.map D.int)])) v → Same H H' → Q v H') ∧ (ns.length < 2 → ∀ H', Same H H' → E (.ref C) none H')
theorem sc_read_call : FnScope ["numbers"] ["numbers"] (defScope s_read_call) := ⟨rfl, rfl, rfl, by decide +kernel, rfl, by decide +kernel, by decide +kernel⟩
theorem c_read_call {C_NoText C_LaneError C_NotFormed C_Faulty : Addr} (B : Blt mg) (HX : ExH K mg C_NoText C_LaneError C_NotFormed C_Faulty) (T_read_call : TopFn K mg "read_call" s_read_call ["numbers"]) : CalleeX P w K mg base C_NoText "read_call" 1 ["numbers"] (sp_read_call C_NoText) := by
  refine T_read_call.okX1 sc_read_call fun f cdv A outer s H v1 Q E hr h => ?_
  have nd := sc_read_call.nd
  obtain ⟨a, ns, rfl, ha, hl, k, no⟩ := h
  refine' go_bodyX [some (.ref a)] rfl ?hb ?hg
  case hb =>
   refine' pss_cons ?zl ?zm
   case zl =>
    refine' ps_if ?zn ?zo ?zp
    case zn => exact (pt_cmpR op_lt (pe_callB (k_len (K := K) rfl) (by rfl) B.b_len bt_len (pa_consN (pv 0) pa_nil)) pe_int (nomark _))
    case zo => exact (pss_one (ps_raise (by rfl) HX.m_NoText HX.exc (pa_consK pe_str pa_nil)))
    case zp => exact pss_nil
   case zm =>
    refine' pss_one ?zq
    case zq =>
     refine' ps_ret ?zr
     case zr =>
      refine' pe_tup ?zs
      case zs =>
       refine' pa_consK ?zt ?zu
       case zt => exact pe_str
       case zu =>
        refine' pa_consS ?zv ?zw
        case zv => exact (pe_ix (k_ix (K := K) rfl) (pv 0) pe_int (fun _ _ => rfl))
        case zw =>
         refine' pa_consS ?zx ?zy
         case zx => exact (pe_ix (k_ix (K := K) rfl) (pv 0) pe_int (fun _ _ => rfl))
         case zy =>
          refine' pa_consC ?zz ?zba
          case zz => exact (pe_callTy (k_tupOf (K := K) rfl) (by rfl) B.b_tuple bt_tuple (pa_consS (pe_slice (k_sl (K := K) rfl) (pv 0) (po_some pe_int) po_none) pa_nil))
          case zba => exact pa_nil
  walk_at "rd"
  refine rd_lenL' (SqL.of ha) ?_
  walk_at "rd"
  refine ite_dd (fun h1 => ?_) (fun h1 => ?_)
  · walk_at "rd"
    rw [List.length_map] at h1
    exact ⟨by decide, no (by omega) _ (Same.refl _)⟩
  rw [List.length_map] at h1
  obtain ⟨c, b, qs, rfl⟩ : ∃ c b qs, ns = c :: b :: qs := by
    rcases ns with _ | ⟨t, _ | ⟨b, qs⟩⟩
    · exact absurd (show ((0 : Nat) : Int) < 2 by decide) h1
    · exact absurd (show ((1 : Nat) : Int) < 2 by decide) h1
    · exact ⟨t, b, qs, rfl⟩
  have k := k c b qs rfl
  walk_at "rd"
  refine rd_ixaL ha (v := .int c) (atI_at (n := 0) rfl rfl) ?_
  walk_at "rd"
  refine rd_ixaL ha (v := .int b) (atI_at (n := 1) rfl rfl) ?_
  walk_at "rd"
  refine rd_slL (SqL.of ha) fun p2 hp2 => ?_
  have ec : cutV ((c :: b :: qs).map V.int) (some 2) none = qs.map V.int := cut_from (k := 2) (by simp)
  rw [ec]
  have s2 := Same.new (o := .lst (qs.map V.int)) hp2
  have e2 : upd H p2 (.lst (qs.map V.int)) p2 = some (.lst (qs.map V.int)) := upd_same
  generalize upd H p2 (.lst (qs.map V.int)) = H2 at s2 e2
  walk_at "rd"
  refine rd_tupL (SqL.of e2) fun p3 hp3 => ?_
  have s3 := Same.new (o := .tup (qs.map V.int)) hp3
  have e3 : upd H2 p3 (.tup (qs.map V.int)) p3 = some (.tup (qs.map V.int)) := upd_same
  generalize upd H2 p3 (.tup (qs.map V.int)) = H3 at s3 e3
  walk_at "rd"
  walk_at "mk"; intro p4 hp4
  have s4 := Same.new (o := .tup [V.str "call", V.int c, V.int b, V.ref p3]) hp4
  refine k (.ref p4) _ ?_ ((s2.trans s3).trans s4)
  exact rep_tup upd_same (reps_cons (by rw [Rep]; rfl) (reps_cons rep_int (reps_cons rep_int (reps_cons (rep_tup (s4 _ _ e3) (ints_reps qs)) reps_nil))))
noncomputable def sp_read_row (C : Addr) : Sp := spX2 fun x y H Q E => ∃ wd a ns, x = .str wd ∧ y = .ref a ∧ H a = some (.lst (ns.map V.int)) ∧ ns.length ≤ 999000 ∧ (∀ r, rowP wd ns = some r → ∀ v H', Rep H' (rowD r) v → Same H H' → Q v H') ∧ (rowP wd ns = none → ∀ H', Same H H' → E (.ref C) none H')
theorem sc_read_row : FnScope ["word", "numbers"] ["word", "numbers"] (defScope s_read_row) := ⟨rfl, rfl, rfl, by decide +kernel, rfl, by decide +kernel, by decide +kernel⟩
theorem c_read_row {C_NoText C_LaneError C_NotFormed C_Faulty : Addr} (B : Blt mg) (HX : ExH K mg C_NoText C_LaneError C_NotFormed C_Faulty) (G : Glb K w mg) (T_read_row : TopFn K mg "read_row" s_read_row ["word", "numbers"]) (Cread_call : CalleeX P w K mg base C_NoText "read_call" 1 ["numbers"] (sp_read_call C_NoText)) : CalleeX P w K mg base C_NoText "read_row" 2 ["word", "numbers"] (sp_read_row C_NoText) := by
  refine T_read_row.okX2 sc_read_row fun f cdv A outer s H v1 v2 Q E hr h => ?_
  have nd := sc_read_row.nd
  obtain ⟨wd, a, ns, rfl, rfl, ha, hl, k, no⟩ := h
  refine' go_bodyX [some (.str wd), some (.ref a)] rfl ?hb ?hg
  case hb =>
   refine' pss_cons ?zbb ?zbc
   case zbb =>
    refine' ps_if ?zbd ?zbe ?zbf
    case zbd => exact (pt_cmpR (op_notCD (K := K) (w := w) (tb := partsT) rfl rfl) (pv 0) (pe_cd (K := K) (w := w) (by rfl) G.c_PARTS) (by with_unfolding_all rfl))
    case zbe => exact (pss_one (ps_raise (by rfl) HX.m_NoText HX.exc (pa_consK pe_str pa_nil)))
    case zbf => exact pss_nil
   case zbc =>
    refine' pss_cons ?zbg ?zbh
    case zbg =>
     refine' ps_if ?zbi ?zbj ?zbk
     case zbi => exact (pt_cmpR op_eq (pv 0) pe_str (nomark _))
     case zbj => exact (pss_one (ps_ret (pe_fnX Cread_call (hr.mono (by first | decide | omega)) (by rfl) (pa_consN (pv 1) pa_nil))))
     case zbk => exact pss_nil
    case zbh =>
     refine' pss_cons ?zbl ?zbm
     case zbl =>
      refine' ps_if ?zbn ?zbo ?zbp
      case zbn =>
       refine' pt_cmpR ?zbq ?zbr ?zbs ?zbt
       case zbq => exact op_ne
       case zbr => exact (pe_callB (k_len (K := K) rfl) (by rfl) B.b_len bt_len (pa_consN (pv 1) pa_nil))
       case zbs =>
        refine' pe_callB ?zbu ?zbv ?zbw ?zbx ?zby
        case zbu => exact (k_len (K := K) rfl)
        case zbv => exact (by rfl)
        case zbw => exact B.b_len
        case zbx => exact bt_len
        case zby => exact (pa_consS (pe_cdget (K := K) (w := w) (tb := partsT) rfl rfl (pe_cd (K := K) (w := w) (by rfl) G.c_PARTS) (pv 0) (fun _ _ => rfl)) pa_nil)
       case zbt => exact (nomark _)
      case zbo => exact (pss_one (ps_raise (by rfl) HX.m_NoText HX.exc (pa_consK pe_str pa_nil)))
      case zbp => exact pss_nil
     case zbm =>
      refine' pss_one ?zbz
      case zbz =>
       refine' ps_ret ?zca
       case zca =>
        refine' pe_op ?zcb ?zcc ?zcd
        case zcb => exact (k_catW (K := K) rfl)
        case zcc => exact (pe_tup (pa_consN (pv 0) pa_nil))
        case zcd => exact (pe_callTy (k_tupOf (K := K) rfl) (by rfl) B.b_tuple bt_tuple (pa_consN (pv 1) pa_nil))
  walk_at "rd"
  refine rd_cd fun cd hcd => ?_
  refine rd_notCD hcd ?_
  walk_at "rd"
  cases lk : partsT.lookup wd with
  | none =>
    refine ite_yes rfl ?_
    walk_at "rd"
    exact ⟨by decide, no (by unfold rowP; rw [lk]) _ (Same.refl _)⟩
  | some ks =>
    refine ite_no rfl ?_
    walk_at "rd"
    refine ite_dd (fun hc => ?_) (fun hc => ?_)
    · walk_at "rd"
      refine useX1 ⟨a, _, rfl, ha, by omega, fun c b qs e v H' rv s' => k _ (by rw [e]; unfold rowP; rw [lk]; show (if wd = callW then _ else _) = _; rw [if_pos (show wd = callW from hc)]) v H' rv s', fun h2 H' s' => no ?_ H' s'⟩
      unfold rowP
      rw [lk]
      show (if wd = callW then _ else _) = _
      rw [if_pos (show wd = callW from hc)]
      rcases ns with _ | ⟨c, _ | ⟨b, qs⟩⟩
      · rfl
      · rfl
      · simp only [List.length_cons] at h2; omega
    walk_at "rd"
    refine rd_lenL' (SqL.of ha) ?_
    walk_at "rd"
    refine rd_cd fun cd2 hcd2 => ?_
    walk_at "rd"
    refine cdK_of hcd2 lk fun tb htb => ?_
    walk_at "rd"
    refine rd_lenT' (htb _) ?_
    walk_at "rd"
    have eN : rowP wd ns = if ns.length = ks.length then some (wd, ns.map D.int) else none := by
      unfold rowP
      rw [lk]
      show (if wd = callW then _ else _) = _
      rw [if_neg (show ¬ wd = callW from hc)]
    refine ite_nd (fun h1 => ?_) (fun h1 => ?_)
    · walk_at "rd"
      refine ⟨by decide, no ?_ _ (Same.refl _)⟩
      rw [eN, if_neg]
      intro z
      apply h1
      rw [List.length_map, List.length_map, z]
    have h2 : ns.length = ks.length := by
      rw [List.length_map, List.length_map] at h1
      omega
    have k := k _ (by rw [eN, if_pos h2])
    walk_at "rd"
    walk_at "mk"; intro p1 hp1
    have s1 := Same.new (o := .tup [V.str wd]) hp1
    have e1 : upd H p1 (.tup [V.str wd]) p1 = some (.tup [V.str wd]) := upd_same
    generalize upd H p1 (.tup [V.str wd]) = H1 at s1 e1
    walk_at "rd"
    refine rd_tupL (SqL.of (s1 _ _ ha)) fun p2 hp2 => ?_
    have s2 := Same.new (o := .tup (ns.map V.int)) hp2
    have e2 : upd H1 p2 (.tup (ns.map V.int)) p2 = some (.tup (ns.map V.int)) := upd_same
    generalize upd H1 p2 (.tup (ns.map V.int)) = H2 at s2 e2
    refine rd_catW (s2 _ _ e1) e2 (by rw [List.length_map]; simp only [List.length_cons, List.length_nil]; omega) fun p3 H3 hp3 s3 => ?_
    refine k (.ref p3) H3 ?_ ((s1.trans s2).trans s3)
    exact rep_tup hp3 (reps_cons (by rw [Rep]) (ints_reps ns))

end
end My

end
section
set_option Elab.async false
set_option linter.all false
set_option maxRecDepth 100000
set_option maxHeartbeats 4000000

namespace My
open PySem L2

section
variable {P : Program} {w : World} {K : PySem.W.Frag} {mg : Str → Option Value} {base : Heap}
/-! ### a program in the heap, its lists of rows by name -/
noncomputable def DefL1 (H : Hp) (d : PDef) (v : V) (l : Addr) : Prop := ∃ t ys, v = .ref t ∧ H t = some (.tup [.int d.1, .int d.2.1, .ref l]) ∧ H l = some (.lst ys) ∧ Reps H (d.2.2.map rowD) ys
noncomputable def DefsL (H : Hp) (ds : List PDef) (vs : List V) (ls : List Addr) : Prop := ds.length = vs.length ∧ ls.length = vs.length ∧ ∀ (i : Nat) d v l, ds[i]? = some d → vs[i]? = some v → ls[i]? = some l → DefL1 H d v l
theorem DefL1.mono {H H' : Hp} {d : PDef} {v : V} {l : Addr} (h : DefL1 H d v l) (s : Same H H') : DefL1 H' d v l := by
  obtain ⟨t, ys, e, h1, h2, h3⟩ := h
  exact ⟨t, ys, e, s _ _ h1, s _ _ h2, h3.mono s.ts⟩
theorem DefL1.wr {H : Hp} {d : PDef} {v : V} {l a : Addr} {xs : List V} {o : HO} (h : DefL1 H d v l) (ha : H a = some (.lst xs)) (n : l ≠ a) : DefL1 (upd H a o) d v l := by
  obtain ⟨t, ys, e, h1, h2, h3⟩ := h
  have tw : TSame H (upd H a o) := TSame.wr fun zs z => by rw [ha] at z; cases z
  exact ⟨t, ys, e, tw _ _ h1, by rw [upd_ne n]; exact h2, h3.mono tw⟩
theorem DefL1.at {H : Hp} {d : PDef} {v : V} {l : Addr} (h : DefL1 H d v l) : DefAt [] H d v := by
  obtain ⟨t, ys, e, h1, h2, h3⟩ := h
  exact ⟨t, l, ys, e, h1, h2, List.not_mem_nil, h3⟩
theorem DefsL.mono {H H' : Hp} {ds : List PDef} {vs : List V} {ls : List Addr} (h : DefsL H ds vs ls) (s : Same H H') : DefsL H' ds vs ls := ⟨h.1, h.2.1, fun i d v l h1 h2 h3 => (h.2.2 i d v l h1 h2 h3).mono s⟩
theorem DefsL.tail {H : Hp} {d : PDef} {ds : List PDef} {v : V} {vs : List V} {l : Addr} {ls : List Addr} (h : DefsL H (d :: ds) (v :: vs) (l :: ls)) : DefL1 H d v l ∧ DefsL H ds vs ls :=
  ⟨h.2.2 0 d v l rfl rfl rfl, Nat.succ.inj h.1, Nat.succ.inj h.2.1, fun i d' v' l' h1 h2 h3 => h.2.2 (i + 1) d' v' l' h1 h2 h3⟩
theorem DefsL.at {H : Hp} : ∀ {ds : List PDef} {vs : List V} {ls : List Addr}, DefsL H ds vs ls → DefsAt [] H ds vs
  | [], [], _, _ => rfl
  | [], _ :: _, _, h => by cases h.1
  | _ :: _, [], _, h => by cases h.1
  | _ :: _, _ :: _, [], h => by cases h.2.1
  | d :: ds, v :: vs, l :: ls, h => ⟨v, vs, rfl, h.tail.1.at, DefsL.at h.tail.2⟩
theorem DefsL.snoc {H : Hp} {ds : List PDef} {vs : List V} {ls : List Addr} {d : PDef} {v : V} {l : Addr} (h : DefsL H ds vs ls) (k : DefL1 H d v l) : DefsL H (ds ++ [d]) (vs ++ [v]) (ls ++ [l]) := by
  obtain ⟨h1, h2, h3⟩ := h
  refine ⟨by simp [h1], by simp [h2], fun i d' v' l' e1 e2 e3 => ?_⟩
  rcases Nat.lt_trichotomy i vs.length with q | q | q
  · rw [List.getElem?_append_left (by omega)] at e1 e2 e3
    exact h3 i d' v' l' e1 e2 e3
  · rw [List.getElem?_append_right (by omega), show i - ds.length = 0 by omega] at e1
    rw [List.getElem?_append_right (by omega), show i - vs.length = 0 by omega] at e2
    rw [List.getElem?_append_right (by omega), show i - ls.length = 0 by omega] at e3
    cases e1
    cases e2
    cases e3
    exact k
  · rw [List.getElem?_append_right (by omega), List.getElem?_eq_none (by simp; omega)] at e2
    cases e2
theorem DefsL.front {H : Hp} {ds : List PDef} {vs : List V} {ls : List Addr} {d : PDef} {v : V} {l : Addr} (hl : ds.length = vs.length) (hm : ls.length = vs.length) (h : DefsL H (ds ++ [d]) (vs ++ [v]) (ls ++ [l])) : DefsL H ds vs ls ∧ DefL1 H d v l := by
  refine ⟨⟨hl, hm, fun i d' v' l' e1 e2 e3 => ?_⟩, h.2.2 ds.length d v l (by simp) (by rw [hl]; simp) (by rw [hl, ← hm]; simp)⟩
  have q := (List.getElem?_eq_some_iff.mp e2).1
  exact h.2.2 i d' v' l' (by rw [List.getElem?_append_left (by omega)]; exact e1) (by rw [List.getElem?_append_left (by omega)]; exact e2) (by rw [List.getElem?_append_left (by omega)]; exact e3)
/-- a program that is being read -/
structure RdI (H0 H : Hp) (q : Addr) (acc : List PDef) (vs : List V) (ls : List Addr) : Prop where
  at' : H q = some (.lst vs)
  df : DefsL H acc vs ls
  nd : ls.Nodup
  nq : q ∉ ls
  new : ∀ l ∈ ls, H0 l = none
  os : ∀ a o, a ≠ q → a ∉ ls → H0 a = some o → H a = some o
theorem RdI.mono {H0 H H' : Hp} {q : Addr} {acc : List PDef} {vs : List V} {ls : List Addr} (I : RdI H0 H q acc vs ls) (s : Same H H') : RdI H0 H' q acc vs ls := ⟨s _ _ I.at', I.df.mono s, I.nd, I.nq, I.new, fun a o h1 h2 h3 => s _ _ (I.os a o h1 h2 h3)⟩
theorem RdI.lst {H0 H : Hp} {q : Addr} {acc : List PDef} {vs : List V} {ls : List Addr} (I : RdI H0 H q acc vs ls) {l : Addr} (hl : l ∈ ls) : ∃ ys, H l = some (.lst ys) := by
  obtain ⟨i, hi⟩ := List.mem_iff_getElem?.mp hl
  have q := (List.getElem?_eq_some_iff.mp hi).1
  have h1 := I.df.1
  have h2 := I.df.2.1
  obtain ⟨t, ys, _, _, h, _⟩ := I.df.2.2 i _ _ l (List.getElem?_eq_getElem (by omega)) (List.getElem?_eq_getElem (by omega)) hi
  exact ⟨ys, h⟩
/-- what is new now was new at the beginning -/
theorem RdI.free {H0 H : Hp} {q : Addr} {acc : List PDef} {vs : List V} {ls : List Addr} (I : RdI H0 H q acc vs ls) {l : Addr} (h : H l = none) : l ≠ q ∧ l ∉ ls ∧ H0 l = none := by
  have n1 : l ≠ q := fun e => by rw [e, I.at'] at h; cases h
  have n2 : l ∉ ls := fun m => by obtain ⟨ys, e⟩ := I.lst m; rw [e] at h; cases h
  refine ⟨n1, n2, ?_⟩
  cases e : H0 l with
  | none => rfl
  | some o => rw [I.os l o n1 n2 e] at h; cases h
theorem RdI.push {H0 H H' : Hp} {q : Addr} {acc : List PDef} {vs : List V} {ls : List Addr} {a b : Int} {t l : Addr} (I : RdI H0 H q acc vs ls) (hl : H l = none) (s : Same H H') (h1 : H' t = some (.tup [.int a, .int b, .ref l])) (h2 : H' l = some (.lst [])) :
    RdI H0 (upd H' q (.lst (vs ++ [.ref t]))) q (acc ++ [(a, b, [])]) (vs ++ [.ref t]) (ls ++ [l]) := by
  obtain ⟨n1, n2, n3⟩ := I.free hl
  have J := I.mono s
  have k1 : DefL1 H' (a, b, []) (.ref t) l := ⟨t, [], rfl, h1, h2, reps_nil⟩
  refine ⟨upd_same, DefsL.snoc ⟨J.df.1, J.df.2.1, fun i d v m e1 e2 e3 => (J.df.2.2 i d v m e1 e2 e3).wr J.at' fun z => J.nq (z ▸ List.mem_of_getElem? e3)⟩ (k1.wr J.at' n1), ?_, ?_, ?_, ?_⟩
  · rw [List.nodup_append]
    exact ⟨J.nd, by simp, fun x hx y hy e => n2 (by rw [List.mem_singleton] at hy; rw [← hy, ← e]; exact hx)⟩
  · intro z
    rcases List.mem_append.mp z with z | z
    · exact J.nq z
    · exact n1 (List.mem_singleton.mp z).symm
  · intro x hx
    rcases List.mem_append.mp hx with hx | hx
    · exact J.new x hx
    · rw [List.mem_singleton.mp hx]; exact n3
  · intro x o hx hx' e
    rw [upd_ne hx]
    exact J.os x o hx (fun z => hx' (List.mem_append_left _ z)) e
theorem RdI.row {H0 H : Hp} {q : Addr} {acc : List PDef} {vs : List V} {ls : List Addr} {d : PDef} {v : V} {l : Addr} {r : Str × List D} {y : V} (hl : acc.length = vs.length) (hm : ls.length = vs.length) (I : RdI H0 H q (acc ++ [d]) (vs ++ [v]) (ls ++ [l])) (rr : Rep H (rowD r) y) :
    ∃ ys, ys.length = d.2.2.length ∧ H l = some (.lst ys) ∧ RdI H0 (upd H l (.lst (ys ++ [y]))) q (acc ++ [(d.1, d.2.1, d.2.2 ++ [r])]) (vs ++ [v]) (ls ++ [l]) := by
  obtain ⟨f, t, ys, rfl, h1, h2, h3⟩ := DefsL.front hl hm I.df
  have hnl : q ≠ l := fun z => I.nq (z ▸ List.mem_append_right _ List.mem_cons_self)
  have tw : TSame H (upd H l (.lst (ys ++ [y]))) := TSame.wr fun zs z => by rw [h2] at z; cases z
  have hys := h3.length
  rw [List.length_map] at hys
  refine ⟨ys, hys.symm, h2, by rw [upd_ne hnl]; exact I.at', DefsL.snoc ⟨hl, hm, fun i d' v' m e1 e2 e3 => (f.2.2 i d' v' m e1 e2 e3).wr h2 ?_⟩ ⟨t, ys ++ [y], rfl, tw _ _ h1, upd_same, ?_⟩, I.nd, I.nq, I.new, fun x o hx hx' e => ?_⟩
  · intro z
    have := (List.nodup_append.mp I.nd).2.2 m (List.mem_of_getElem? e3) l List.mem_cons_self
    exact this z
  · show Reps _ ((d.2.2 ++ [r]).map rowD) (ys ++ [y])
    rw [List.map_append]
    exact Reps.append (h3.mono tw) (reps_cons (rr.mono tw) reps_nil)
  · rw [upd_ne (fun z => hx' (by rw [z]; exact List.mem_append_right _ List.mem_cons_self))]
    exact I.os x o hx hx' e
/-- a program that was read: new lists -/
noncomputable def NewPg (H H' : Hp) (q : Addr) (ds : List PDef) : Prop := H q = none ∧ ∃ vs ls, RdI H H' q ds vs ls
theorem NewPg.same {H H' : Hp} {q : Addr} {ds : List PDef} (h : NewPg H H' q ds) : Same H H' := by
  obtain ⟨hq, vs, ls, I⟩ := h
  intro a o e
  refine I.os a o (fun z => by rw [z, hq] at e; cases e) (fun z => by rw [I.new a z] at e; cases e) e
theorem NewPg.at {H H' : Hp} {q : Addr} {ds : List PDef} (h : NewPg H H' q ds) : ∃ vs, H' q = some (.lst vs) ∧ DefsAt [] H' ds vs := by
  obtain ⟨hq, vs, ls, I⟩ := h
  exact ⟨vs, I.at', I.df.at⟩
/-! ### parts of a text -/
theorem jn_mem {c x : Nat} : ∀ {ps : List (List Nat)} {p : List Nat}, p ∈ ps → x ∈ p → x ∈ jn c ps
  | [_], p, hp, hx => by rw [List.mem_singleton.mp hp] at hx; exact hx
  | a :: b :: r, p, hp, hx => by
    show x ∈ a ++ c :: jn c (b :: r)
    rcases List.mem_cons.mp hp with rfl | hp
    · exact List.mem_append_left _ hx
    · exact List.mem_append_right _ (List.mem_cons_of_mem _ (jn_mem hp hx))
theorem jn_len {c : Nat} : ∀ {ps : List (List Nat)} {p : List Nat}, p ∈ ps → p.length ≤ (jn c ps).length
  | [_], p, hp => by rw [List.mem_singleton.mp hp]; exact Nat.le_refl _
  | a :: b :: r, p, hp => by
    show _ ≤ (a ++ c :: jn c (b :: r)).length
    rw [List.length_append, List.length_cons]
    rcases List.mem_cons.mp hp with rfl | hp
    · omega
    · have := jn_len (c := c) hp
      omega
theorem split_part {z p : Str} {c : Nat} (h : p ∈ Txt.split z ⟨#[c]⟩) : (∀ x ∈ cs p, x ∈ cs z) ∧ p.length ≤ z.length := by
  have e := congrArg cs (StrLaws.join_split z ⟨#[c]⟩)
  rw [cs_join] at e
  have hm : cs p ∈ (Txt.split z ⟨#[c]⟩).map cs := List.mem_map.mpr ⟨p, h, rfl⟩
  refine ⟨fun x hx => by rw [← e]; exact jn_mem hm hx, ?_⟩
  have := jn_len (c := c) hm
  rw [e, cs_len, cs_len] at this
  exact this
theorem asc_part {z p : Str} {c : Nat} (h : p ∈ Txt.split z ⟨#[c]⟩) (a : isAsc z) : isAsc p := asc_mem.mpr fun x hx => asc_mem.mp a x ((split_part h).1 x hx)
theorem fold_none {α β : Type} {f : β → α → Option β} {l m : List α} {b : β} (h : l.foldlM f b = none) : (l ++ m).foldlM f b = none := by
  rw [List.foldlM_append, h]
  rfl
theorem take_none {α β : Type} {f : β → α → Option β} {l : List α} {b : β} {i : Nat} (h : (l.take i).foldlM f b = none) : l.foldlM f b = none := by
  rw [← List.take_append_drop i l]
  exact fold_none h
theorem fold_snoc {α β : Type} {f : β → α → Option β} {l : List α} {b c : β} {i : Nat} {x : α} (hx : l[i]? = some x) (h : (l.take i).foldlM f b = some c) : (l.take (i + 1)).foldlM f b = f c x := by
  rw [List.take_add_one, hx, List.foldlM_append, h]
  show (f c x >>= pure) = _
  exact bind_pure _
theorem mapM_snoc {α β : Type} {f : α → Option β} {l : List α} {r : List β} {i : Nat} {x : α} (hx : l[i]? = some x) (h : (l.take i).mapM f = some r) : (l.take (i + 1)).mapM f = (f x).map fun y => r ++ [y] := by
  rw [List.take_add_one, hx, List.mapM_append, h]
  show (some r >>= fun xs => ([x] : List α).mapM f >>= fun ys => pure (xs ++ ys)) = _
  rw [List.mapM_cons, List.mapM_nil]
  cases f x <;> rfl
theorem mapM_none {α β : Type} {f : α → Option β} {l : List α} {i : Nat} (h : (l.take i).mapM f = none) : l.mapM f = none := by
  rw [← List.take_append_drop i l, List.mapM_append, h]
  rfl
theorem lineP_eq {acc : List PDef} {line w0 : Str} {ws : List Str} (h : Txt.split line blank = w0 :: ws) : lineP acc line = match ws.mapM (wholeP 60) with | none => none | some ns => lineW acc w0 ns := by
  unfold lineP
  first
    | (rw [h]; done)
    | (rw [h]; rfl)
noncomputable def sp_read (C : Addr) : Sp := spX1 fun x H Q E => ∃ z, x = .str z ∧ z.length ≤ 900000 ∧ isAsc z ∧ (∀ ds, readP z = some ds → ∀ q H', NewPg H H' q ds → Q (.ref q) H') ∧ (readP z = none → ∀ H', Same H H' → E (.ref C) none H')
theorem sc_read : FnScope ["text", "program", "line", "words", "numbers"] ["text"] (defScope s_read) := ⟨rfl, rfl, rfl, by decide +kernel, rfl, by decide +kernel, by decide +kernel⟩
theorem c_read {C_NoText C_LaneError C_NotFormed C_Faulty : Addr} (B : Blt mg) (G : Glb K w mg) (HX : ExH K mg C_NoText C_LaneError C_NotFormed C_Faulty) (T_read : TopFn K mg "read" s_read ["text"]) (Cread_whole : CalleeX P w K mg base C_NoText "read_whole" 1 ["text", "most"] (sp_read_whole C_NoText)) (Cread_head : CalleeX P w K mg base C_NoText "read_head" 1 ["numbers"] (sp_read_head C_NoText)) (Cread_row : CalleeX P w K mg base C_NoText "read_row" 2 ["word", "numbers"] (sp_read_row C_NoText)) : CalleeX P w K mg base C_NoText "read" 3 ["text"] (sp_read C_NoText) := by
  refine T_read.okX1 sc_read fun f cdv A outer s H v1 Q E hr h => ?_
  have nd := sc_read.nd
  obtain ⟨z, rfl, hz, az, k, no⟩ := h
  refine' go_bodyX [some (.str z), none, none, none, none] rfl ?hb ?hg
  case hb =>
   refine' pss_cons ?zb ?zc
   case zb => exact (ps_setL (i := 1) nd rfl (Or.inl rfl) (pe_lst pa_nil))
   case zc =>
    refine' pss_cons ?zd ?ze
    case zd =>
     refine' ps_for ?zf ?zg ?zh ?zi ?zj
     case zf => exact PassesOwn.leaving
     case zg => exact rfl
     case zh =>
      refine' k_pi_list (K := K) ?zk ?zl
      case zk => exact rfl
      case zl => exact (k_bm (K := K) rfl PySem.F.plainAttrs_str PySem.F.slot_str_split PySem.F.type_str_split mt_split (pv 0) (pa_consK pe_str pa_nil))
     case zi => exact (pg_name (i := 2) nd rfl (Or.inl rfl))
     case zj =>
      refine' pss_cons ?zm ?zn
      case zm =>
       refine' ps_setC (i := 3) ?zo ?zp ?zq ?zr
       case zo => exact nd
       case zp => exact rfl
       case zq => exact (Or.inl rfl)
       case zr => exact (k_bm (K := K) rfl PySem.F.plainAttrs_str PySem.F.slot_str_split PySem.F.type_str_split mt_split (pv 2) (pa_consK pe_str pa_nil))
      case zn =>
       refine' pss_cons ?zs ?zt
       case zs =>
        refine' ps_setcX (i := 4) (LN := ["word"]) (FN := []) (fr := []) ?zu ?zv ?zw ?zx ?zy ?zz ?zba ?zbb ?zbc
        case zu => exact rfl
        case zv => exact nd
        case zw => exact rfl
        case zx => exact rfl
        case zy => exact (bk_of (by rfl))
        case zz => exact (k_pi_list (K := K) rfl (pe_slice (k_sl (K := K) rfl) (pv 3) (po_some pe_int) po_none))
        case zba =>
         intro cl C fp pins s H
         exact (pg_name (i := 0) (show ((["word"] : List Str) ++ ([] : List Str)).Nodup by decide +kernel) rfl (Or.inl rfl))
        case zbb =>
         intro cl C fp pins s H
         exact pts_nil
        case zbc =>
         intro cl C fp pins s H hin
         exact (pe_fnXb hin Cread_whole (hr.mono (by first | decide | omega)) (by rfl) (pa_consN (pv 0) (pa_consN (pe_cint (by rfl) G.c_MOST_FIGURES) pa_nil)))
       case zt =>
        refine' pss_one ?zbd
        case zbd =>
         refine' ps_if ?zbe ?zbf ?zbg
         case zbe => exact (pt_cmpR op_eq (pe_ix (k_ix (K := K) rfl) (pv 3) pe_int (fun _ _ => rfl)) pe_str (nomark _))
         case zbf =>
          refine' pss_one ?zbh
          case zbh =>
           refine' ps_expr ?zbi
           case zbi =>
            refine' k_bm (K := K) ?zbj ?zbk ?zbl ?zbm ?zbn ?zbo ?zbp
            case zbj => exact rfl
            case zbk => exact PySem.F.plainAttrs_list
            case zbl => exact PySem.F.slot_list_append
            case zbm => exact PySem.F.type_list_append
            case zbn => exact mt_append
            case zbo => exact (pv 1)
            case zbp => exact (pa_consC (pe_fnX Cread_head (hr.mono (by first | decide | omega)) (by rfl) (pa_consN (pv 4) pa_nil)) pa_nil)
         case zbg =>
          refine' pss_one ?zbq
          case zbq =>
           refine' ps_if ?zbr ?zbs ?zbt
           case zbr => exact (pt_cmpR op_eq (pe_callB (k_len (K := K) rfl) (by rfl) B.b_len bt_len (pa_consN (pv 1) pa_nil)) pe_int (nomark _))
           case zbs => exact (pss_one (ps_raise (by rfl) HX.m_NoText HX.exc (pa_consK pe_str pa_nil)))
           case zbt =>
            refine' pss_one ?zbu
            case zbu =>
             refine' ps_expr ?zbv
             case zbv =>
              refine' k_bm (K := K) ?zbw ?zbx ?zby ?zbz ?zca ?zcb ?zcc
              case zbw => exact rfl
              case zbx => exact PySem.F.plainAttrs_list
              case zby => exact PySem.F.slot_list_append
              case zbz => exact PySem.F.type_list_append
              case zca => exact mt_append
              case zcb => exact (pe_ix (k_ix (K := K) rfl) (pe_ix (k_ix (K := K) rfl) (pv 1) (pe_un un_neg pe_int) (fun _ _ => rfl)) pe_int (fun _ _ => rfl))
              case zcc =>
               refine' pa_consC ?zcd ?zce
               case zcd =>
                refine' pe_fnX ?zcf ?zcg ?zch ?zci
                case zcf => exact Cread_row
                case zcg => exact (hr.mono (by first | decide | omega))
                case zch => exact (by rfl)
                case zci => exact (pa_consS (pe_ix (k_ix (K := K) rfl) (pv 3) pe_int (fun _ _ => rfl)) (pa_consN (pv 4) pa_nil))
               case zce => exact pa_nil
    case ze => exact (pss_one (ps_ret (pv 1)))
  walk_at "rd"
  walk_at "mk"; intro q hq
  have s0 := Same.new (o := .lst []) hq
  have e0 : upd H q (.lst []) q = some (.lst []) := upd_same
  have hos : ∀ a o, a ≠ q → upd H q (.lst []) a = some o → H a = some o := fun a o n e => by rw [upd_ne n] at e; exact e
  have I0 : RdI H (upd H q (.lst [])) q [] [] [] := ⟨e0, ⟨rfl, rfl, fun i d v l e => (by cases e)⟩, List.nodup_nil, List.not_mem_nil, fun l hl => (by cases hl), fun a o n _ e => s0 _ _ e⟩
  generalize upd H q (.lst []) = H0 at s0 e0 hos I0
  walk_at "rd"
  refine ⟨rfl, ?_⟩
  walk_at "rd"
  refine rd_split (by decide) (big_le (by omega)) fun p1 hp1 => ?_
  rw [show (Str.ofString "\n") = (⟨#[10]⟩ : Str) from feed_eq]
  generalize hls : Txt.split z ⟨#[10]⟩ = lines
  have hll : lines.length ≤ 1000000 := by
    have := split_len z ⟨#[10]⟩
    rw [hls] at this
    omega
  have s1 := Same.new (o := .lst (lines.map V.str)) hp1
  have e1 : upd H0 p1 (.lst (lines.map V.str)) p1 = some (.lst (lines.map V.str)) := upd_same
  have I1 := I0.mono s1
  have npq : p1 ≠ q := fun e => by rw [e, e0] at hp1; cases hp1
  have hp0 : H p1 = none := by
    cases e : H p1 with
    | none => rfl
    | some o => rw [s0 _ _ e] at hp1; cases hp1
  generalize upd H0 p1 (.lst (lines.map V.str)) = H1 at s1 e1 I1
  refine ilK_of (SqL.of e1) ?_
  refine for_list (xs := lines.map V.str) (fun i σ Hx => ∃ c2 c3 c4 acc vs ls, σ = [some (.str z), some (.ref q), c2, c3, c4] ∧ (lines.take i).foldlM lineP [] = some acc ∧ acc.length ≤ i ∧ (∀ d ∈ acc, d.2.2.length ≤ i) ∧ RdI H Hx q acc vs ls ∧ p1 ∉ ls ∧ Hx p1 = some (.lst (lines.map V.str))) ⟨none, none, none, [], [], [], rfl, rfl, Nat.le_refl _, fun d hd => (by cases hd), I1, List.not_mem_nil, e1⟩ (fun i σ Hx _ ⟨_, _, _, _, _, _, _, _, _, _, _, _, e⟩ => SqL.of e) ?_ ?_
  · rintro i x σ Hx hx ⟨c2, c3, c4, acc, vs, ls, rfl, hacc, hal, har, I, np, ep⟩
    rw [List.getElem?_map] at hx
    obtain ⟨line, el, rfl⟩ := Option.map_eq_some_iff.mp hx
    have hmem : line ∈ Txt.split z ⟨#[10]⟩ := by rw [hls]; exact List.mem_of_getElem? el
    have al := asc_part hmem az
    have hlz := (split_part hmem).2
    have hil : i < lines.length := (List.getElem?_eq_some_iff.mp el).1
    have bad : lineP acc line = none → ∀ H', Same Hx H' → E (.ref C_NoText) none H' := fun e H' s' => no (by
      unfold readP
      rw [feed_eq, hls]
      exact take_none (i := i + 1) (by rw [fold_snoc el hacc]; exact e)) H' ((NewPg.same ⟨hq, vs, ls, I⟩).trans s')
    have next := fold_snoc (f := lineP) el hacc
    walk_at "rd"
    refine ⟨rfl, ?_⟩
    walk_at "rd"
    refine rd_split (by decide) (big_le (by omega)) fun p2 hp2 => ?_
    rw [show (Str.ofString " ") = (⟨#[32]⟩ : Str) from blank_eq]
    obtain ⟨w0, ws, hws⟩ : ∃ w0 ws, Txt.split line ⟨#[32]⟩ = w0 :: ws := by
      cases hws : Txt.split line ⟨#[32]⟩ with
      | nil => exact absurd hws (split_ne _ _)
      | cons w0 ws => exact ⟨w0, ws, rfl⟩
    have hwl := split_len line ⟨#[32]⟩
    rw [hws] at hwl ⊢
    simp only [List.length_cons] at hwl
    have s2 := Same.new (o := .lst ((w0 :: ws).map V.str)) hp2
    have e2 : upd Hx p2 (.lst ((w0 :: ws).map V.str)) p2 = some (.lst ((w0 :: ws).map V.str)) := upd_same
    generalize upd Hx p2 (.lst ((w0 :: ws).map V.str)) = H2 at s2 e2
    have lineE := lineP_eq (acc := acc) (show Txt.split line blank = w0 :: ws by rw [blank_eq]; exact hws)
    walk_at "rd"
    refine rd_slL (SqL.of e2) fun p3 hp3 => ?_
    have ec : cutV ((w0 :: ws).map V.str) (some 1) none = ws.map V.str := cut_from (k := 1) (by simp)
    rw [ec]
    have s3 := Same.new (o := .lst (ws.map V.str)) hp3
    have e3 : upd H2 p3 (.lst (ws.map V.str)) p3 = some (.lst (ws.map V.str)) := upd_same
    generalize upd H2 p3 (.lst (ws.map V.str)) = H3 at s3 e3
    refine ilK_of (SqL.of e3) ?_
    refine cw_list (xs := ws.map V.str) (small_le' (by rw [List.length_map]; omega)) (fun j ys σ Hy => (∃ x1, σ = [x1]) ∧ Same H3 Hy ∧ ∃ ns : List Int, (ws.take j).mapM (wholeP 60) = some ns ∧ ns.length = j ∧ ys = ns.map V.int) ⟨⟨none, rfl⟩, Same.refl _, [], rfl, rfl, rfl⟩ (fun j ys σ Hy _ ⟨_, s4, _⟩ => SqL.of (s4 _ _ e3)) ?_ ?_
    · rintro j x ys σ Hy hx hle hlt ⟨⟨x1, rfl⟩, s4, ns, hns, hnl, rfl⟩
      rw [List.getElem?_map] at hx
      obtain ⟨wd, ew, rfl⟩ := Option.map_eq_some_iff.mp hx
      have hwm : wd ∈ Txt.split line ⟨#[32]⟩ := by rw [hws]; exact List.mem_cons_of_mem _ (List.mem_of_getElem? ew)
      have hwl2 := (split_part hwm).2
      have nx := mapM_snoc (f := wholeP 60) ew hns
      walk_at "rd"
      refine useX2 ⟨wd, 60, rfl, rfl, by decide, by omega, asc_part hwm al, fun n H5 hv s5 => ?_, fun H5 hv s5 => bad (by rw [lineE, mapM_none (i := j + 1) (by rw [nx, hv]; rfl)]) _ (((s2.trans s3).trans s4).trans s5)⟩
      refine ⟨hlt, by simpa using hle, ⟨_, rfl⟩, s4.trans s5, ns ++ [n], by rw [nx, hv]; rfl, by simp [hnl], by simp⟩
    rintro ys σ Hy _ ⟨⟨x1, rfl⟩, s4, ns, hns, hnl, rfl⟩ p5 hp5
    rw [List.length_map] at hnl hns
    rw [List.take_length] at hns
    rw [hns] at lineE
    dsimp only at lineE
    have s5 := Same.new (o := .lst (ns.map V.int)) hp5
    have e5 : upd Hy p5 (.lst (ns.map V.int)) p5 = some (.lst (ns.map V.int)) := upd_same
    generalize upd Hy p5 (.lst (ns.map V.int)) = H5 at s5 e5
    have s25 := ((s2.trans s3).trans s4).trans s5
    have I5 := I.mono s25
    walk_at "rd"
    refine rd_ixaL ((s3.trans (s4.trans s5)) _ _ e2) (v := .str w0) (atI_at (n := 0) rfl rfl) ?_
    walk_at "rd"
    unfold lineW at lineE
    refine ite_dd (fun hd => ?_) (fun hd => ?_)
    · rw [if_pos (show w0 = defW from hd)] at lineE
      walk_at "rd"
      refine ⟨.inl ⟨rfl, vs, SqL.of I5.at'⟩, ?_⟩
      walk_at "rd"
      refine useX1 ⟨p5, ns, rfl, e5, by omega, fun t b en p6 l6 H6 h6 g6 n6 s6 => ?_, fun h2 H6 s6 => bad ?_ _ (s25.trans s6)⟩
      rotate_left
      · rw [lineE]
        rcases ns with _ | ⟨t, _ | ⟨b, _ | ⟨b2, r2⟩⟩⟩
        · rfl
        · rfl
        · exact absurd rfl h2
        · rfl
      · subst en
        walk_at "rd"
        have hvl := I5.df.1
        refine rd_append (s6 _ _ I5.at') (Nat.lt_of_le_of_lt (show vs.length ≤ 1000000 by omega) (by rw [PySem.sizeLine_eq]; decide)) ?_
        have I6 := I5.push n6 s6 h6 g6
        have nl6 : p1 ≠ l6 := fun e => by rw [← e, s25 _ _ ep] at n6; cases n6
        refine ⟨_, _, _, acc ++ [(t, b, [])], _, _, rfl, by rw [next, lineE], by simp; omega, fun d hd' => ?_, I6, fun hm => ?_, by rw [upd_ne npq]; exact s6 _ _ (s25 _ _ ep)⟩
        · rcases List.mem_append.mp hd' with hd' | hd'
          · have := har d hd'; omega
          · rw [List.mem_singleton.mp hd']; exact Nat.zero_le _
        · rcases List.mem_append.mp hm with hm | hm
          · exact np hm
          · exact nl6 (List.mem_singleton.mp hm)
    · rw [if_neg (show ¬ w0 = defW from hd)] at lineE
      walk_at "rd"
      refine rd_lenL' (SqL.of I5.at') ?_
      walk_at "rd"
      have hvl := I5.df.1
      have hvm := I5.df.2.1
      refine ite_dd (fun h0 => ?_) (fun h0 => ?_)
      · have : acc = [] := List.eq_nil_of_length_eq_zero (by omega)
        rw [if_pos this] at lineE
        walk_at "rd"
        exact ⟨by decide, bad lineE _ s25⟩
      have hne : acc ≠ [] := fun e => h0 (by rw [e] at hvl; rw [← hvl]; rfl)
      rw [if_neg hne] at lineE
      · skip
        have hvn : vs ≠ [] := fun e => hne (List.eq_nil_of_length_eq_zero (by rw [hvl, e]; rfl))
        have hln : ls ≠ [] := fun e => hvn (List.eq_nil_of_length_eq_zero (by rw [← hvm, e]; rfl))
        obtain ⟨acc0, d, rfl⟩ : ∃ a d, acc = a ++ [d] := ⟨_, _, (List.dropLast_concat_getLast hne).symm⟩
        obtain ⟨vs0, v, rfl⟩ : ∃ a d, vs = a ++ [d] := ⟨_, _, (List.dropLast_concat_getLast hvn).symm⟩
        obtain ⟨ls0, l, rfl⟩ : ∃ a d, ls = a ++ [d] := ⟨_, _, (List.dropLast_concat_getLast hln).symm⟩
        have hv0 : acc0.length = vs0.length := by simpa using hvl
        have hm0 : ls0.length = vs0.length := by simpa using hvm
        obtain ⟨t, ys, rfl, ht, hlt, _⟩ := (DefsL.front hv0 hm0 I5.df).2
        walk_at "rd"
        refine rd_ixaL I5.at' (v := .ref t) (atI_last _ _) ?_
        walk_at "rd"
        refine rd_ixaT ht (v := .ref l) (atI_at (n := 2) rfl rfl) ?_
        refine ⟨.inl ⟨rfl, _, SqL.of hlt⟩, ?_⟩
        walk_at "rd"
        refine rd_ixaL ((s3.trans (s4.trans s5)) _ _ e2) (v := .str w0) (atI_at (n := 0) rfl rfl) ?_
        walk_at "rd"
        refine useX2 ⟨w0, p5, ns, rfl, rfl, e5, by rw [hnl]; omega, fun r hrow y H6 ry s6 => ?_, fun hrow H6 s6 => bad (by rw [lineE, hrow]; rfl) _ (s25.trans s6)⟩
        rw [hrow] at lineE
        have lineE : lineP (acc0 ++ [d]) line = some (addRow (acc0 ++ [d]) r) := lineE
        rw [addRow_snoc] at lineE
        walk_at "rd"
        obtain ⟨ys', hyl, hl6, I6⟩ := (I5.mono s6).row hv0 hm0 ry
        have hdr := har d (List.mem_append_right _ List.mem_cons_self)
        refine rd_append hl6 (Nat.lt_of_le_of_lt (show ys'.length ≤ 1000000 by omega) (by rw [PySem.sizeLine_eq]; decide)) ?_
        refine ⟨_, _, _, _, _, _, rfl, by rw [next, lineE], by simp only [List.length_append, List.length_cons, List.length_nil] at hal ⊢; omega, fun d' hd' => ?_, I6, np, ?_⟩
        · rcases List.mem_append.mp hd' with hd' | hd'
          · have := har d' (List.mem_append_left _ hd'); omega
          · rw [List.mem_singleton.mp hd']
            simp only [List.length_append, List.length_cons, List.length_nil]
            omega
        · rw [upd_ne (fun e => np (by rw [e]; exact List.mem_append_right _ List.mem_cons_self))]
          exact s6 _ _ (s25 _ _ ep)
  · rintro σ Hx ⟨c2, c3, c4, acc, vs, ls, rfl, hacc, hal, har, I, np, ep⟩
    walk_at "rd"
    rw [List.length_map, List.take_length] at hacc
    exact k acc (by unfold readP; rw [feed_eq, hls]; exact hacc) q Hx ⟨hq, vs, ls, I⟩

end
end My

end
section
set_option Elab.async false
set_option linter.all false
set_option maxRecDepth 100000
set_option maxHeartbeats 4000000

namespace My
open PySem L2

section
variable {P : Program} {w : World} {K : PySem.W.Frag} {mg : Str → Option Value} {base : Heap}
/-! ### the law's own writing -/
noncomputable def tailT (ns : List Int) : List Nat := ns.flatMap fun n => 32 :: cs (numS n)
theorem tail_cat (a b : List Int) : tailT (a ++ b) = tailT a ++ tailT b := by simp [tailT]
theorem jn_tail : ∀ (ns : List Int) (x : List Nat), jn 32 (x :: (ns.map numS).map cs) = x ++ tailT ns
  | [], x => by simp [jn, tailT]
  | n :: ns, x => by
    show x ++ 32 :: jn 32 (cs (numS n) :: (ns.map numS).map cs) = _
    rw [jn_tail ns (cs (numS n))]
    rfl
theorem cs_rowT (wd : Str) (ns : List Int) : cs (rowT wd ns) = cs wd ++ tailT ns := by
  unfold rowT
  rw [blank_eq, cs_join, List.map_cons, jn_tail]
theorem cs_join0 : ∀ (zs : List Str), cs (Str.join (Str.ofString "") zs) = (zs.map cs).flatten
  | [] => rfl
  | [x] => by simp [Str.join]
  | x :: y :: r => by
    show cs (x ++ Str.ofString "" ++ Str.join (Str.ofString "") (y :: r)) = _
    rw [cs_app, cs_app, cs_join0 (y :: r), show cs (Str.ofString "") = [] from by decide, List.append_nil]
    rfl
theorem part_shape {r : Str × List D} (h : RowR r) : ∀ d ∈ r.2, (∃ n, d = .int n ∧ Small n) ∨ ∃ qs : List Int, d = .tup (qs.map D.int) ∧ (∀ q ∈ qs, Small q) ∧ qs.length ≤ (L2.numsOf r).length := by
  intro d hd
  have hn := h.num
  rcases h.shape with ⟨_, a, b, qs, e, en⟩ | ⟨_, ns, e, en⟩
  · rw [e] at hd
    rw [en] at hn ⊢
    simp only [List.mem_cons, List.not_mem_nil, or_false] at hd
    rcases hd with rfl | rfl | rfl
    · exact .inl ⟨a, rfl, hn a List.mem_cons_self⟩
    · exact .inl ⟨b, rfl, hn b (List.mem_cons_of_mem _ List.mem_cons_self)⟩
    · exact .inr ⟨qs, rfl, fun q hq => hn q (List.mem_cons_of_mem _ (List.mem_cons_of_mem _ hq)), by simp only [List.length_cons]; omega⟩
  · rw [e] at hd
    obtain ⟨n, hm, rfl⟩ := List.mem_map.mp hd
    rw [en] at hn
    exact .inl ⟨n, rfl, hn n hm⟩
theorem tail_len : ∀ {ns : List Int}, (∀ n ∈ ns, Small n) → (tailT ns).length ≤ 62 * ns.length
  | [], _ => Nat.le_refl _
  | n :: ns, h => by
    have h1 := num_len (h n List.mem_cons_self)
    have h2 := tail_len fun x hx => h x (List.mem_cons_of_mem _ hx)
    show ((32 :: cs (numS n)) ++ tailT ns).length ≤ _
    have h3 := cs_len (numS n)
    simp only [List.length_append, List.length_cons]
    omega
theorem take_sub {r : Str × List D} {j : Nat} : ∀ n ∈ (r.2.take j).flatMap numD, n ∈ L2.numsOf r := fun n hn => by
  obtain ⟨d, hd, hn⟩ := List.mem_flatMap.mp hn
  exact List.mem_flatMap.mpr ⟨d, List.mem_of_mem_take hd, hn⟩
theorem take_len2 {r : Str × List D} {j : Nat} : ((r.2.take j).flatMap numD).length ≤ (L2.numsOf r).length := by
  unfold L2.numsOf
  rw [show r.2.flatMap numD = ((r.2.take j) ++ (r.2.drop j)).flatMap numD by rw [List.take_append_drop], List.flatMap_append, List.length_append]
  omega
theorem line_len {wd line : Str} {ns : List Int} (hw : wd.length ≤ 10) (h : ∀ n ∈ ns, Small n) (hl : ns.length ≤ 100) (e : cs line = cs wd ++ tailT ns) : line.length ≤ 7000 := by
  rw [← cs_len, e, List.length_append, cs_len]
  have := tail_len h
  omega
theorem head_eq (a b : Int) : Str.ofString "def " ++ numS a ++ Str.ofString " " ++ numS b = rowT defW [a, b] := by
  apply cs_inj
  rw [cs_rowT, cs_app, cs_app, cs_app, show cs (Str.ofString "def ") = cs defW ++ [32] from by decide, show cs (Str.ofString " ") = [32] from by decide]
  simp [tailT]
theorem rd_strN {i : Int} {H : Hp} {Q : VK} (h : Small i) (q : Q (.str (numS i)) H) : rStrI [.int i] H Q := rd_strI (small_log h) q
theorem sub_flat {a b : List (List Str)} (h : a.Sublist b) : a.flatten.length ≤ b.flatten.length := by
  induction h with
  | slnil => exact Nat.le_refl _
  | cons x _ ih => rw [List.flatten_cons, List.length_append]; omega
  | cons_cons x _ ih => rw [List.flatten_cons, List.flatten_cons, List.length_append, List.length_append]; omega
noncomputable def sp_written : Sp := sp1 fun x H Q => ∃ p vs ds, x = .ref p ∧ H p = some (.lst vs) ∧ DefsAt [] H ds vs ∧ (∀ d ∈ ds, DefT d) ∧ ((ds.map defL).flatten).length ≤ 300 ∧ ∀ H', Same H H' → Q (.str (progT ds)) H'
theorem sc__law_written : FnScope ["program", "lines", "takes", "boxes", "rows", "row", "line", "part"] ["program"] (defScope s__law_written) := ⟨rfl, rfl, rfl, by decide +kernel, rfl, by decide +kernel, by decide +kernel⟩
theorem c__law_written (B : Blt mg) (T__law_written : TopFn K mg "_law_written" s__law_written ["program"]) : Callee P w K mg base "_law_written" 1 ["program"] sp_written := by
  refine T__law_written.ok1 sc__law_written fun f cdv A outer s H v1 Q E hr h => ?_
  have nd := sc__law_written.nd
  obtain ⟨p, vs, ds, rfl, hp, D0, DT, hn, k⟩ := h
  have hlv := D0.length
  refine' go_body [some (.ref p), none, none, none, none, none, none, none] rfl ?hb ?hg
  case hb =>
   refine' pss_cons ?zb ?zc
   case zb => exact (ps_setL (i := 1) nd rfl (Or.inl rfl) (pe_lst pa_nil))
   case zc =>
    refine' pss_cons ?zd ?ze
    case zd =>
     refine' ps_for ?zf ?zg ?zh ?zi ?zj
     case zf => exact PassesOwn.never
     case zg => exact rfl
     case zh => exact (k_pi_list (K := K) rfl (pv 0))
     case zi =>
      refine' k_pg_tup (K := K) (n := 3) ?zk ?zl ?zm
      case zk => exact rfl
      case zl => exact rfl
      case zm =>
       refine' pgs_cons ?zn ?zo
       case zn => exact (pg_name (i := 2) nd rfl (Or.inl rfl))
       case zo => exact (pgs_cons (pg_name (i := 3) nd rfl (Or.inl rfl)) (pgs_cons (pg_name (i := 4) nd rfl (Or.inl rfl)) pgs_nil))
     case zj =>
      refine' pss_cons ?zp ?zq
      case zp =>
       refine' ps_expr ?zr
       case zr =>
        refine' k_bm (K := K) ?zs ?zt ?zu ?zv ?zw ?zx ?zy
        case zs => exact rfl
        case zt => exact PySem.F.plainAttrs_list
        case zu => exact PySem.F.slot_list_append
        case zv => exact PySem.F.type_list_append
        case zw => exact mt_append
        case zx => exact (pv 1)
        case zy =>
         refine' pa_consB ?zz ?zba
         case zz =>
          refine' pe_op ?zbb ?zbc ?zbd
          case zbb => exact op_addS
          case zbc => exact (pe_op op_addS (pe_op op_addS pe_str (pe_callTy call_strI (by rfl) B.b_str bt_str (pa_consN (pv 2) pa_nil))) pe_str)
          case zbd => exact (pe_callTy call_strI (by rfl) B.b_str bt_str (pa_consN (pv 3) pa_nil))
         case zba => exact pa_nil
      case zq =>
       refine' pss_one ?zbe
       case zbe =>
        refine' ps_for ?zbf ?zbg ?zbh ?zbi ?zbj
        case zbf => exact PassesOwn.never
        case zbg => exact rfl
        case zbh => exact (k_pi_list (K := K) rfl (pv 4))
        case zbi => exact (pg_name (i := 5) nd rfl (Or.inl rfl))
        case zbj =>
         refine' pss_cons ?zbk ?zbl
         case zbk => exact (ps_setS (i := 6) nd rfl (Or.inl rfl) (pe_ix (k_ix (K := K) rfl) (pv 5) pe_int (fun _ _ => rfl)))
         case zbl =>
          refine' pss_cons ?zbm ?zbn
          case zbm =>
           refine' ps_for ?zbo ?zbp ?zbq ?zbr ?zbs
           case zbo => exact PassesOwn.never
           case zbp => exact rfl
           case zbq => exact (k_pi_tup (K := K) rfl (pe_slice (k_slT (K := K) rfl) (pv 5) (po_some pe_int) po_none))
           case zbr => exact (pg_name (i := 7) nd rfl (Or.inl rfl))
           case zbs =>
            refine' pss_one ?zbt
            case zbt =>
             refine' ps_if ?zbu ?zbv ?zbw
             case zbu =>
              refine' pt_val ?zbx
              case zbx =>
               refine' pe_callB ?zby ?zbz ?zca ?zcb ?zcc
               case zby => exact call_isi
               case zbz => exact (by rfl)
               case zca => exact B.b_isinstance
               case zcb => exact bt_isinstance
               case zcc => exact (pa_consN (pv 7) (pa_consN (pe_bltn (v := .ty "tuple") (by rfl) B.b_tuple bt_tuple rfl) pa_nil))
             case zbv =>
              refine' pss_one ?zcd
              case zcd =>
               refine' ps_setB (i := 6) ?zce ?zcf ?zcg ?zch
               case zce => exact nd
               case zcf => exact rfl
               case zcg => exact (Or.inl rfl)
               case zch =>
                refine' pe_op ?zci ?zcj ?zck
                case zci => exact op_addS
                case zcj => exact (pv 6)
                case zck =>
                 refine' k_bm (K := K) ?zcl ?zcm ?zcn ?zco ?zcp ?zcq ?zcr
                 case zcl => exact rfl
                 case zcm => exact PySem.F.plainAttrs_str
                 case zcn => exact PySem.F.slot_str_join
                 case zco => exact PySem.F.type_str_join
                 case zcp => exact (k_join (K := K) rfl)
                 case zcq => exact pe_str
                 case zcr =>
                  refine' pa_consM ?zcs ?zct
                  case zcs =>
                   refine' pe_comp (LN := ["q"]) (FN := []) (fr := []) ?zcu ?zcv ?zcw ?zcx ?zcy ?zcz
                   case zcu => exact rfl
                   case zcv => exact (bk_of (by rfl))
                   case zcw => exact (k_pi_tup (K := K) rfl (pv 7))
                   case zcx =>
                    intro cl C fp pins s H
                    exact (pg_name (i := 0) (show ((["q"] : List Str) ++ ([] : List Str)).Nodup by decide +kernel) rfl (Or.inl rfl))
                   case zcy =>
                    intro cl C fp pins s H
                    exact pts_nil
                   case zcz =>
                    intro cl C fp pins s H
                    exact (pe_op op_addS pe_str (pe_callTy call_strI (by rfl) B.b_str bt_str (pa_consN (pv 0) pa_nil)))
                  case zct => exact pa_nil
             case zbw =>
              refine' pss_one ?zda
              case zda =>
               refine' ps_setB (i := 6) ?zdb ?zdc ?zdd ?zde
               case zdb => exact nd
               case zdc => exact rfl
               case zdd => exact (Or.inl rfl)
               case zde => exact (pe_op op_addS (pe_op op_addS (pv 6) pe_str) (pe_callTy call_strI (by rfl) B.b_str bt_str (pa_consN (pv 7) pa_nil)))
          case zbn =>
           refine' pss_one ?zdf
           case zdf => exact (ps_expr (k_bm (K := K) rfl PySem.F.plainAttrs_list PySem.F.slot_list_append PySem.F.type_list_append mt_append (pv 1) (pa_consN (pv 6) pa_nil)))
    case ze =>
     refine' pss_one ?zdg
     case zdg => exact (ps_ret (k_bm (K := K) rfl PySem.F.plainAttrs_str PySem.F.slot_str_join PySem.F.type_str_join (k_join (K := K) rfl) pe_str (pa_consN (pv 1) pa_nil)))
  walk_at "rd"
  walk_at "mk"; intro q hq
  have s0 := Same.new (o := .lst []) hq
  have e0 : upd H q (.lst []) q = some (.lst []) := upd_same
  generalize upd H q (.lst []) = H0 at s0 e0
  have sm : ∀ {Hx : Hp}, BSame q H0 Hx → Same H Hx := fun b a o e => b a o (fun z => by rw [z, hq] at e; cases e) (s0 _ _ e)
  have lim : ∀ i, (((ds.take i).map defL).flatten).length ≤ 300 := fun i => by
    have := sub_flat ((List.take_sublist i ds).map defL)
    omega
  walk_at "rd"
  refine ilK_of (SqL.of (s0 _ _ hp)) ?_
  refine for_list (xs := vs) (fun i σ Hx => ∃ c2 c3 c4 c5 c6 c7, σ = [some (.ref p), some (.ref q), c2, c3, c4, c5, c6, c7] ∧ Hx q = some (.lst ((((ds.take i).map defL).flatten).map V.str)) ∧ BSame q H0 Hx) ⟨none, none, none, none, none, none, rfl, e0, BSame.refl _ _⟩ (fun i σ Hx _ ⟨_, _, _, _, _, _, _, _, b⟩ => SqL.of (sm b _ _ hp)) ?_ ?_
  · rintro i x σ Hx hx ⟨c2, c3, c4, c5, c6, c7, rfl, eq, bx⟩
    obtain ⟨d, ed, t, l, ys, rfl, ht0, hl0, _, rr0⟩ := D0.get hx
    have hd := DT d (List.mem_of_getElem? ed)
    have ht := sm bx _ _ ht0
    have hl := sm bx _ _ hl0
    have rr := rr0.mono (sm bx).ts
    have hyl := rr.length
    rw [List.length_map] at hyl
    have nl : l ≠ q := fun z => by rw [z, hq] at hl0; cases hl0
    have hlim := lim (i + 1)
    rw [List.take_add_one, ed] at hlim
    simp only [Option.toList_some, List.map_append, List.map_cons, List.map_nil, List.flatten_append, List.flatten_cons, List.flatten_nil, List.append_nil, List.length_append] at hlim
    generalize hpre : ((ds.take i).map defL).flatten = pre at *
    have hdl : (defL d).length = 1 + d.2.2.length := by simp [defL]; omega
    refine rd_gtup ht rfl ?_
    walk_at "rd"
    refine ⟨.inl ⟨rfl, _, SqL.of eq⟩, ?_⟩
    walk_at "rd"
    refine rd_strN hd.r.takes ?_
    have n1 := num_len hd.r.takes
    have n2 := num_len hd.r.boxes
    have d4 : (Str.ofString "def ").length = 4 := by decide
    have d1 : (Str.ofString " ").length = 1 := by decide
    refine rd_addS (big_le (by omega)) ?_
    walk_at "rd"
    refine rd_addS (big_le (by rw [len_app]; omega)) ?_
    walk_at "rd"
    refine rd_strN hd.r.boxes ?_
    refine rd_addS (big_le (by rw [len_app, len_app]; omega)) ?_
    walk_at "rd"
    rw [head_eq]
    have hpl : pre.length + d.2.2.length ≤ 300 := by omega
    refine rd_append eq (Nat.lt_of_le_of_lt (show (pre.map V.str).length ≤ 1000000 by rw [List.length_map]; omega) (by rw [PySem.sizeLine_eq]; decide)) ?_
    have e1 : (upd Hx q (.lst (pre.map V.str ++ [V.str (rowT defW [d.1, d.2.1])]))) q = some (.lst ((pre ++ [headT d]).map V.str)) := by rw [upd_same, List.map_append]; rfl
    have b1 : BSame q Hx (upd Hx q (.lst (pre.map V.str ++ [V.str (rowT defW [d.1, d.2.1])]))) := fun a o n e => by rw [upd_ne n]; exact e
    generalize upd Hx q (.lst (pre.map V.str ++ [V.str (rowT defW [d.1, d.2.1])])) = H1 at e1 b1
    walk_at "rd"
    refine ilK_of (SqL.of (b1 _ _ nl hl)) ?_
    refine for_list (xs := ys) (fun j σ Hy => ∃ c5 c6 c7, σ = [some (.ref p), some (.ref q), some (.int d.1), some (.int d.2.1), some (.ref l), c5, c6, c7] ∧ Hy q = some (.lst ((pre ++ headT d :: (d.2.2.take j).map fun (r : Str × List D) => rowT r.1 (L2.numsOf r)).map V.str)) ∧ BSame q Hx Hy) ⟨c5, c6, c7, rfl, e1, b1⟩ (fun j σ Hy _ ⟨_, _, _, _, _, b⟩ => SqL.of (b _ _ nl hl)) ?_ ?_
    · rintro j x σ Hy hx ⟨c5, c6, c7, rfl, ey, bY⟩
      obtain ⟨dr, edr, rdr⟩ := rr0.get' hx
      rw [List.getElem?_map] at edr
      obtain ⟨r, er, rfl⟩ := Option.map_eq_some_iff.mp edr
      have hr := hd.r.rows r (List.mem_of_getElem? er)
      have hm := hd.m r (List.mem_of_getElem? er)
      have hw := (word_free hr.row).2.2
      have sY := sm (bx.trans bY)
      have rdy := rdr.mono sY.ts
      obtain ⟨a, xs', rfl, ha, rx0⟩ := rep_tup_inv (show Rep Hy (.tup (.str r.1 :: r.2)) x from rdy)
      obtain ⟨u, xs, rfl, ru, rx⟩ := reps_cons_inv rx0
      obtain rfl : u = .str r.1 := by rwa [Rep] at ru
      have hxl := rx.length
      walk_at "rd"
      refine rd_ixaT ha (v := .str r.1) (atI_at (n := 0) rfl rfl) ?_
      walk_at "rd"
      refine rd_slT1 ha fun p3 hp3 => ?_
      have s3 := Same.new (o := .tup xs) hp3
      have e3 : upd Hy p3 (.tup xs) p3 = some (.tup xs) := upd_same
      generalize upd Hy p3 (.tup xs) = H3 at s3 e3
      refine itK_of (SqT.of e3) ?_
      have hrl : r.2.length ≤ 100 := by
        rcases hr.shape with ⟨_, a, b, qs, e, _⟩ | ⟨_, ns, e, en⟩
        · rw [e]; simp
        · rw [e, List.length_map]; rw [en] at hm; omega
      refine for_tup (xs := xs) (fun i σ Hz => ∃ line c7, σ = [some (.ref p), some (.ref q), some (.int d.1), some (.int d.2.1), some (.ref l), some (.ref a), some (.str line), c7] ∧ cs line = cs r.1 ++ tailT ((r.2.take i).flatMap numD) ∧ Same H3 Hz) ⟨r.1, c7, rfl, by simp [tailT], Same.refl _⟩ (fun i σ Hz _ ⟨_, _, _, _, s4⟩ => SqT.of (s4 _ _ e3)) ?_ ?_
      · rintro m x σ Hz hx ⟨line, c7, rfl, eline, s4⟩
        obtain ⟨dp, edp, rdp⟩ := rx.get' hx
        have rdz := rdp.mono (s3.trans s4).ts
        have hll := line_len hw (fun n hn => hr.num n (take_sub n hn)) (by have := take_len2 (r := r) (j := m); omega) eline
        have hnext : ((r.2.take (m + 1)).flatMap numD) = ((r.2.take m).flatMap numD) ++ numD dp := by
          rw [List.take_add_one, edp]
          simp
        walk_at "rd"
        rcases part_shape hr dp (List.mem_of_getElem? edp) with ⟨n, rfl, hn⟩ | ⟨qs, rfl, hqs, hql⟩
        · obtain rfl := rep_int_inv rdz
          have nn := num_len hn
          refine rd_isi (t := "int") rfl (by decide) ?_
          walk_at "rd"
          refine ite_no (by decide) ?_
          walk_at "rd"
          refine rd_addS (big_le (by omega)) ?_
          walk_at "rd"
          refine rd_strN hn ?_
          refine rd_addS (big_le (by rw [len_app]; omega)) ?_
          walk_at "rd"
          refine ⟨_, _, rfl, ?_, s4⟩
          rw [hnext, tail_cat, cs_app, cs_app, eline, show cs (Str.ofString " ") = [32] from by decide]
          simp [tailT, numD]
        · obtain ⟨t5, z5, rfl, ht5, rz5⟩ := rep_tup_inv rdz
          obtain rfl := reps_ints rz5
          refine rd_isi (t := "tuple") (tyN_tup ht5) (by decide) ?_
          walk_at "rd"
          refine ite_yes (by decide) ?_
          walk_at "rd"
          refine ⟨rfl, ?_⟩
          walk_at "rd"
          refine itK_of (SqT.of ht5) ?_
          refine cw_tup (xs := qs.map V.int) (small_le' (by rw [List.length_map]; omega)) (fun i ys σ H5 => (∃ x1, σ = [x1]) ∧ H5 = Hz ∧ ys = ((qs.take i).map fun n => Str.ofString " " ++ numS n).map V.str) ⟨⟨none, rfl⟩, rfl, rfl⟩ (fun i ys σ H5 _ ⟨_, e, _⟩ => by rw [e]; exact SqT.of ht5) ?_ ?_
          · rintro i x ys σ H5 hx hle hlt ⟨⟨x1, rfl⟩, rfl, rfl⟩
            rw [List.getElem?_map] at hx
            obtain ⟨n, en, rfl⟩ := Option.map_eq_some_iff.mp hx
            have hn := hqs n (List.mem_of_getElem? en)
            have nn := num_len hn
            walk_at "rd"
            refine rd_strN hn ?_
            refine rd_addS (big_le (by omega)) ?_
            refine ⟨hlt, by simpa using hle, ⟨_, rfl⟩, rfl, ?_⟩
            rw [List.take_add_one, en]
            simp
          rintro ys σ H5 _ ⟨⟨x1, rfl⟩, rfl, rfl⟩ p6 hp6
          rw [List.length_map, List.take_length]
          have s6 := Same.new (o := .lst ((qs.map fun n => Str.ofString " " ++ numS n).map V.str)) hp6
          have hsum : ((qs.map fun n => Str.ofString " " ++ numS n).map (·.length)).sum ≤ 62 * qs.length := by
            have := sum_le (c := 62) (ls := qs.map fun n => Str.ofString " " ++ numS n) (fun z hz => by
              obtain ⟨n, hn, rfl⟩ := List.mem_map.mp hz
              have := num_len (hqs n hn)
              rw [len_app]
              omega)
            rw [List.length_map] at this
            exact this
          walk_at "rd"
          refine rd_join (zs := qs.map fun n => Str.ofString " " ++ numS n) (SqL.of upd_same) (by decide) (by rw [List.length_map]; omega) ?_
          have ej : cs (Str.join (Str.ofString "") (qs.map fun n => Str.ofString " " ++ numS n)) = tailT qs := by
            rw [cs_join0, List.map_map]
            unfold tailT
            rw [List.flatMap_def]
            congr 1
            apply List.map_congr_left
            intro n _
            show cs (Str.ofString " " ++ numS n) = _
            rw [cs_app]
            rfl
          have hjl : (Str.join (Str.ofString "") (qs.map fun n => Str.ofString " " ++ numS n)).length ≤ 62 * qs.length := by
            rw [← cs_len, ej]
            exact tail_len hqs
          refine rd_addS (big_le (by omega)) ?_
          walk_at "rd"
          refine ⟨_, _, rfl, ?_, s4.trans s6⟩
          rw [hnext, tail_cat, cs_app, ej, eline]
          rw [show numD (.tup (qs.map D.int)) = qs from nums_ints' qs, List.append_assoc]
      · rintro σ Hz ⟨line, c7, rfl, eline, s4⟩
        rw [← hxl, List.take_length] at eline
        have hrow : line = rowT r.1 (L2.numsOf r) := cs_inj (by rw [cs_rowT]; exact eline)
        subst hrow
        walk_at "rd"
        have eyz := (s3.trans s4) _ _ ey
        refine ⟨.inl ⟨rfl, _, SqL.of eyz⟩, ?_⟩
        walk_at "rd"
        refine rd_append eyz (Nat.lt_of_le_of_lt (m := 1000000) (by simp only [List.length_map, List.length_append, List.length_cons, List.length_take]; omega) (by rw [PySem.sizeLine_eq]; decide)) ?_
        refine ⟨_, _, _, rfl, ?_, ?_⟩
        · rw [upd_same, List.take_add_one, er]
          simp
        · intro a o n e
          rw [upd_ne n]
          exact (s3.trans s4) _ _ (bY a o n e)
    · rintro σ Hy ⟨c5, c6, c7, rfl, ey, bY⟩
      walk_at "rd"
      refine ⟨_, _, _, _, _, _, rfl, ?_, bx.trans bY⟩
      have ef : ((ds.take (i + 1)).map defL).flatten = pre ++ defL d := by
        rw [List.take_add_one, ed, List.map_append, List.flatten_append, hpre]
        simp
      rw [ey, ← hyl, List.take_length, ef]
      rfl
  · rintro σ Hx ⟨c2, c3, c4, c5, c6, c7, rfl, eq, bx⟩
    rw [← hlv, List.take_length] at eq
    have hs := sum_le (c := 3200) (ls := (ds.map defL).flatten) (fun z hz => by
      obtain ⟨m, hm, hz⟩ := List.mem_flatten.mp hz
      obtain ⟨d, hd, rfl⟩ := List.mem_map.mp hm
      exact defL_len (DT d hd) z hz)
    walk_at "rd"
    refine ⟨rfl, ?_⟩
    walk_at "rd"
    refine rd_join (zs := (ds.map defL).flatten) (SqL.of eq) (by decide) (by omega) ?_
    have := k Hx (sm bx)
    rw [prog_lines] at this
    exact this

end
end My

end
section
set_option Elab.async false
set_option linter.all false
set_option maxRecDepth 100000
set_option maxHeartbeats 4000000

namespace My
open PySem L2

section
variable {P : Program} {w : World} {K : PySem.W.Frag} {mg : Str → Option Value} {base : Heap}
/-! ### the law's signs and runs -/
noncomputable def sp_any_sign : Sp := sp1 fun x H Q => ∃ b l, x = .ref b ∧ BagAt H b l ∧ ∀ c H', c < 128 → BagAt H' b l → BSame b H H' → Q (.str ⟨#[c]⟩) H'
noncomputable def signsA : Str := "0123456789- \nabcdefghijklmnopqrstuvwxyzABCDEFGHIJKLMNOPQRSTUVWXYZ"
noncomputable def signsB : Str := "!\"#$&'()*+,./:;<=>?\x40[\\]^_`{|}~"
theorem signs_len : (signsA ++ signsB).length = 95 := by decide +kernel
theorem signs_asc : ∀ c ∈ cs (signsA ++ signsB), c < 128 := by decide +kernel
theorem sc__law_any_sign : FnScope ["bag", "some"] ["bag"] (defScope s__law_any_sign) := ⟨rfl, rfl, rfl, by decide +kernel, rfl, by decide +kernel, by decide +kernel⟩
theorem c__law_any_sign (B : Blt mg) (T__law_any_sign : TopFn K mg "_law_any_sign" s__law_any_sign ["bag"]) (C_law_draw : Callee P w K mg base "_law_draw" 1 ["bag", "many"] sp_draw) : Callee P w K mg base "_law_any_sign" 2 ["bag"] sp_any_sign := by
  refine T__law_any_sign.ok1 sc__law_any_sign fun f cdv A outer s H v1 Q E hr h => ?_
  have nd := sc__law_any_sign.nd
  obtain ⟨b, l, rfl, Bg, k⟩ := h
  refine' go_body [some (.ref b), none] rfl ?hb ?hg
  case hb =>
   refine' pss_cons ?zb ?zc
   case zb => exact (ps_set (i := 1) nd rfl (Or.inl rfl) pe_str)
   case zc =>
    refine' pss_cons ?zd ?ze
    case zd => exact (ps_setB (i := 1) nd rfl (Or.inl rfl) (pe_op op_addS (pv 1) pe_str))
    case ze =>
     refine' pss_cons ?zf ?zg
     case zf =>
      refine' ps_if ?zh ?zi ?zj
      case zh => exact (pt_cmpR op_eq (pe_fn C_law_draw (hr.mono (by first | decide | omega)) (by rfl) (pa_consN (pv 0) (pa_consK pe_int pa_nil))) pe_int (nomark _))
      case zi =>
       refine' pss_one ?zk
       case zk =>
        refine' ps_ret ?zl
        case zl => exact (pe_ix ix_str (pv 1) (pe_fn C_law_draw (hr.mono (by first | decide | omega)) (by rfl) (pa_consN (pv 0) (pa_consK pe_int pa_nil))) (fun _ _ => rfl))
      case zj => exact pss_nil
     case zg =>
      refine' pss_one ?zm
      case zm =>
       refine' ps_ret ?zn
       case zn => exact (pe_ix ix_str (pv 1) (pe_fn C_law_draw (hr.mono (by first | decide | omega)) (by rfl) (pa_consN (pv 0) (pa_consK pe_int pa_nil))) (fun _ _ => rfl))
  walk_at "rd"
  refine rd_addS (i := signsA) (j := signsB) (by rw [← len_app, signs_len, PySem.sizeLine_eq]; decide) ?_
  walk_at "rd"
  have pick : ∀ (r : Int), 0 ≤ r → r < 95 → ∃ c, atI (signsA ++ signsB).cps.toList r = some c ∧ c < 128 := by
    intro r h0 h1
    obtain ⟨n, rfl⟩ := Int.eq_ofNat_of_zero_le h0
    have hn : n < (cs (signsA ++ signsB)).length := by rw [cs_len, signs_len]; omega
    exact ⟨_, atI_at (n := n) rfl (List.getElem?_eq_getElem hn), signs_asc _ (List.getElem_mem hn)⟩
  have hsz : (signsA ++ signsB).length ≤ PySem.sizeLine := by rw [signs_len, PySem.sizeLine_eq]; decide
  refine use2 ⟨b, l, 3, rfl, rfl, ⟨by decide, by decide⟩, Bg, fun r1 H1 g0 g1 B1 b1 => ?_⟩
  walk_at "rd"
  refine ite_dd (fun _ => ?_) (fun _ => ?_)
  · walk_at "rd"
    refine use2 ⟨b, l, 13, rfl, rfl, ⟨by decide, by decide⟩, B1, fun r2 H2 h0 h1 B2 b2 => ?_⟩
    obtain ⟨c, e, hc⟩ := pick r2 h0 (by omega)
    exact ⟨_, r2, c, rfl, rfl, hsz, e, k c H2 hc B2 (b1.trans b2)⟩
  · walk_at "rd"
    refine use2 ⟨b, l, 95, rfl, rfl, ⟨by decide, by decide⟩, B1, fun r2 H2 h0 h1 B2 b2 => ?_⟩
    obtain ⟨c, e, hc⟩ := pick r2 h0 (by omega)
    exact ⟨_, r2, c, rfl, rfl, hsz, e, k c H2 hc B2 (b1.trans b2)⟩
theorem asc_one {c : Nat} (h : c < 128) : isAsc ⟨#[c]⟩ := asc_mem.mpr fun d hd => by
  rw [show d = c from List.mem_singleton.mp hd]; exact h
theorem len_one {c : Nat} : (⟨#[c]⟩ : Str).length = 1 := rfl
noncomputable def sp_run : Sp := sp1 fun x H Q => ∃ b l, x = .ref b ∧ BagAt H b l ∧ ∀ z H', isAsc z → z.length ≤ 12 → BagAt H' b l → BSame b H H' → Q (.str z) H'
theorem sc__law_run : FnScope ["bag", "way", "many"] ["bag"] (defScope s__law_run) := ⟨rfl, rfl, rfl, by decide +kernel, rfl, by decide +kernel, by decide +kernel⟩
theorem c__law_run (B : Blt mg) (T__law_run : TopFn K mg "_law_run" s__law_run ["bag"]) (C_law_draw : Callee P w K mg base "_law_draw" 1 ["bag", "many"] sp_draw) (C_law_any_sign : Callee P w K mg base "_law_any_sign" 2 ["bag"] sp_any_sign) : Callee P w K mg base "_law_run" 3 ["bag"] sp_run := by
  refine T__law_run.ok1 sc__law_run fun f cdv A outer s H v1 Q E hr h => ?_
  have nd := sc__law_run.nd
  obtain ⟨b, l, rfl, Bg, k⟩ := h
  refine' go_body [some (.ref b), none, none] rfl ?hb ?hg
  case hb =>
   refine' pss_cons ?zo ?zp
   case zo => exact (ps_setC (i := 1) nd rfl (Or.inl rfl) (pe_fn C_law_draw (hr.mono (by first | decide | omega)) (by rfl) (pa_consN (pv 0) (pa_consK pe_int pa_nil))))
   case zp =>
    refine' pss_cons ?zq ?zr
    case zq => exact (ps_setC (i := 2) nd rfl (Or.inl rfl) (pe_fn C_law_draw (hr.mono (by first | decide | omega)) (by rfl) (pa_consN (pv 0) (pa_consK pe_int pa_nil))))
    case zr =>
     refine' pss_cons ?zs ?zt
     case zs => exact (ps_if (pt_cmpR op_eq (pv 1) pe_int (nomark _)) (pss_one (ps_ret (pe_op op_repS pe_str (pv 2)))) pss_nil)
     case zt =>
      refine' pss_cons ?zu ?zv
      case zu =>
       refine' ps_if ?zw ?zx ?zy
       case zw => exact (pt_cmpR op_eq (pv 1) pe_int (nomark _))
       case zx => exact (pss_one (ps_ret (pe_op op_repS (pe_fn C_law_any_sign (hr.mono (by first | decide | omega)) (by rfl) (pa_consN (pv 0) pa_nil)) (pv 2))))
       case zy => exact pss_nil
      case zv =>
       refine' pss_one ?zz
       case zz =>
        refine' ps_ret ?zba
        case zba =>
         refine' k_bm (K := K) ?zbb ?zbc ?zbd ?zbe ?zbf ?zbg ?zbh
         case zbb => exact rfl
         case zbc => exact PySem.F.plainAttrs_str
         case zbd => exact PySem.F.slot_str_join
         case zbe => exact PySem.F.type_str_join
         case zbf => exact (k_join (K := K) rfl)
         case zbg => exact pe_str
         case zbh =>
          refine' pa_consM ?zbi ?zbj
          case zbi =>
           refine' pe_comp (LN := ["k"]) (FN := ["bag"]) (fr := [0]) ?zbk ?zbl ?zbm ?zbn ?zbo ?zbp
           case zbk => exact rfl
           case zbl => exact (bk_of (by rfl))
           case zbm => exact (pi_range1 rfl B.b_range (pa_consN (pv 2) pa_nil))
           case zbn =>
            intro cl C fp pins s H
            exact (pg_name (i := 0) (show ((["k"] : List Str) ++ (["bag"] : List Str)).Nodup by decide +kernel) rfl (Or.inl rfl))
           case zbo =>
            intro cl C fp pins s H
            exact pts_nil
           case zbp =>
            intro cl C fp pins s H
            exact (pe_fn C_law_any_sign (hr.mono (by first | decide | omega)) (by rfl) (pa_consN (pv 1) pa_nil))
          case zbj => exact pa_nil
  walk_at "rd"
  refine use2 ⟨b, l, 3, rfl, rfl, ⟨by decide, by decide⟩, Bg, fun way H1 g0 g1 B1 b1 => ?_⟩
  walk_at "rd"
  refine use2 ⟨b, l, 13, rfl, rfl, ⟨by decide, by decide⟩, B1, fun many H2 h0 h1 B2 b2 => ?_⟩
  have b12 := b1.trans b2
  walk_at "rd"
  refine ite_dd (fun _ => ?_) (fun _ => ?_)
  · walk_at "rd"
    refine rd_repS (by omega) (by omega) (by decide) fun hl => ?_
    exact k _ _ (asc_rep (asc_one (c := 32) (by decide))) (by have : (Str.ofString " ").length = 1 := by decide
                                                              rw [this] at hl; omega) B2 b12
  walk_at "rd"
  refine ite_dd (fun _ => ?_) (fun _ => ?_)
  · walk_at "rd"
    refine use1 ⟨b, l, rfl, B2, fun c H3 hc B3 b3 => ?_⟩
    walk_at "rd"
    refine rd_repS (by omega) (by omega) (by rw [len_one]; decide) fun hl => ?_
    exact k _ _ (asc_rep (asc_one hc)) (by rw [len_one] at hl; omega) B3 (b12.trans b3)
  walk_at "rd"
  refine ⟨rfl, ?_⟩
  walk_at "rd"
  refine irK_of (by omega) (by omega) ?_
  refine cw_range (n := many.toNat) (small_le (by omega)) (fun j ys σ Hy => (∃ x1, σ = [x1, some (.ref b)]) ∧ ∃ zs : List Str, ys = zs.map V.str ∧ zs.length = j ∧ (∀ z ∈ zs, isAsc z ∧ z.length = 1) ∧ BagAt Hy b l ∧ BSame b H2 Hy) ⟨⟨none, rfl⟩, [], rfl, rfl, by simp, B2, BSame.refl _ _⟩ ?_ ?_
  · rintro j ys σ Hy hj hle hlt ⟨⟨x1, rfl⟩, zs, rfl, hz, hb, By, bY⟩
    walk_at "rd"
    refine use1 ⟨b, l, rfl, By, fun c H6 hc B6 b6 => ?_⟩
    refine ⟨hlt, by simpa using hle, ⟨_, rfl⟩, zs ++ [⟨#[c]⟩], by simp, by simp [hz], fun z hz' => ?_, B6, bY.trans b6⟩
    rcases List.mem_append.mp hz' with hz' | hz'
    · exact hb z hz'
    · rw [List.mem_singleton.mp hz']; exact ⟨asc_one hc, len_one⟩
  rintro ys σ Hy _ ⟨⟨x1, rfl⟩, zs, rfl, hz, hb, By, bY⟩ p6 hp6
  have s6 := Same.new (o := .lst (zs.map V.str)) hp6
  have hsum : (zs.map (·.length)).sum ≤ zs.length := by
    have : ∀ (l : List Str), (∀ z ∈ l, z.length = 1) → (l.map (·.length)).sum ≤ l.length := by
      intro l
      induction l with
      | nil => intro _; exact Nat.le_refl _
      | cons z l ih =>
        intro h
        have h1 := h z List.mem_cons_self
        have h2 := ih fun x hx => h x (List.mem_cons_of_mem _ hx)
        simp only [List.map_cons, List.sum_cons, List.length_cons]
        omega
    exact this zs fun z hz' => (hb z hz').2
  walk_at "rd"
  refine rd_join (zs := zs) (SqL.of upd_same) (by decide) (by omega) ?_
  refine k _ _ (asc_join (asc_mem.mpr (by decide)) fun z hz' => (hb z hz').1) ?_ (By.mono s6) ((b12.trans bY).to s6)
  have := StrLaws.join_length_le (Str.ofString "") zs
  have h0' : (Str.ofString "").length = 0 := by decide
  rw [h0'] at this
  omega

end
end My

end
section
set_option Elab.async false
set_option linter.all false
set_option maxRecDepth 100000
set_option maxHeartbeats 4000000

namespace My
open PySem L2

section
variable {P : Program} {w : World} {K : PySem.W.Frag} {mg : Str → Option Value} {base : Heap}
noncomputable def sp_bent_text : Sp := sp3 fun x y z H Q => ∃ t L pk p0 p1 p2 b l, x = .str t ∧ isAsc t ∧ t.length ≤ L ∧ L ≤ 900000 ∧ y = .ref pk ∧ H pk = some (.lst [.int p0, .int p1, .int p2]) ∧ pk ≠ b ∧ z = .ref b ∧ BagAt H b l ∧ ∀ t' H', isAsc t' → t'.length ≤ L + 12 → BagAt H' b l → BSame b H H' → Q (.str t') H'
theorem sc__law_bent_text : FnScope ["text", "pick", "bag", "at", "starts", "gone"] ["text", "pick", "bag"] (defScope s__law_bent_text) := ⟨rfl, rfl, rfl, by decide +kernel, rfl, by decide +kernel, by decide +kernel⟩
theorem c__law_bent_text (B : Blt mg) (T__law_bent_text : TopFn K mg "_law_bent_text" s__law_bent_text ["text", "pick", "bag"]) (C_law_any_sign : Callee P w K mg base "_law_any_sign" 2 ["bag"] sp_any_sign) (C_law_run : Callee P w K mg base "_law_run" 3 ["bag"] sp_run) : Callee P w K mg base "_law_bent_text" 4 ["text", "pick", "bag"] sp_bent_text := by
  refine T__law_bent_text.ok3 sc__law_bent_text fun f cdv A outer s H v1 v2 v3 Q E hr h => ?_
  have nd := sc__law_bent_text.nd
  have hu := hr.units
  obtain ⟨t, L, pk, p0, p1, p2, b, l, rfl, tasc, hL, hL9, rfl, hpk, npk, rfl, Bg, k⟩ := h
  have big : ∀ {n : Nat}, n ≤ 1000000 → n ≤ PySem.sizeLine := fun h => by rw [PySem.sizeLine_eq]; omega
  refine' go_body [some (.str t), some (.ref pk), some (.ref b), none, none, none] rfl ?hb ?hg
  case hb =>
   refine' pss_cons ?zb ?zc
   case zb =>
    refine' ps_setB (i := 3) ?zd ?ze ?zf ?zg
    case zd => exact nd
    case ze => exact rfl
    case zf => exact (Or.inl rfl)
    case zg =>
     refine' pe_op ?zh ?zi ?zj
     case zh => exact op_mod
     case zi => exact (pe_ix (k_ix (K := K) rfl) (pv 1) pe_int (fun _ _ => rfl))
     case zj => exact (pe_op op_add (pe_callB (k_len (K := K) rfl) (by rfl) B.b_len bt_len (pa_consN (pv 0) pa_nil)) pe_int)
   case zc =>
    refine' pss_cons ?zk ?zl
    case zk =>
     refine' ps_if ?zm ?zn ?zo
     case zm => exact (pt_cmpR op_eq (pe_ix (k_ix (K := K) rfl) (pv 1) pe_int (fun _ _ => rfl)) pe_int (nomark _))
     case zn =>
      refine' pss_one ?zp
      case zp =>
       refine' ps_ret ?zq
       case zq =>
        refine' pe_op ?zr ?zs ?zt
        case zr => exact op_addS
        case zs =>
         refine' pe_op ?zu ?zv ?zw
         case zu => exact op_addS
         case zv => exact (pe_slice sl_str (pv 0) po_none (po_some (pv 3)))
         case zw => exact (pe_fn C_law_any_sign (hr.mono (by first | decide | omega)) (by rfl) (pa_consN (pv 2) pa_nil))
        case zt => exact (pe_slice sl_str (pv 0) (po_some (pv 3)) po_none)
     case zo => exact pss_nil
    case zl =>
     refine' pss_cons ?zx ?zy
     case zx =>
      refine' ps_if ?zz ?zba ?zbb
      case zz => exact (pt_cmpR op_eq (pe_ix (k_ix (K := K) rfl) (pv 1) pe_int (fun _ _ => rfl)) pe_int (nomark _))
      case zba =>
       refine' pss_one ?zbc
       case zbc => exact (ps_ret (pe_op op_addS (pe_slice sl_str (pv 0) po_none (po_some (pv 3))) (pe_slice sl_str (pv 0) (po_some (pe_op op_add (pv 3) pe_int)) po_none)))
      case zbb => exact pss_nil
     case zy =>
      refine' pss_cons ?zbd ?zbe
      case zbd =>
       refine' ps_if ?zbf ?zbg ?zbh
       case zbf => exact (pt_cmpR op_eq (pe_ix (k_ix (K := K) rfl) (pv 1) pe_int (fun _ _ => rfl)) pe_int (nomark _))
       case zbg =>
        refine' pss_one ?zbi
        case zbi =>
         refine' ps_ret ?zbj
         case zbj =>
          refine' pe_op ?zbk ?zbl ?zbm
          case zbk => exact op_addS
          case zbl =>
           refine' pe_op ?zbn ?zbo ?zbp
           case zbn => exact op_addS
           case zbo => exact (pe_slice sl_str (pv 0) po_none (po_some (pv 3)))
           case zbp => exact (pe_fn C_law_any_sign (hr.mono (by first | decide | omega)) (by rfl) (pa_consN (pv 2) pa_nil))
          case zbm => exact (pe_slice sl_str (pv 0) (po_some (pe_op op_add (pv 3) pe_int)) po_none)
       case zbh => exact pss_nil
      case zbe =>
       refine' pss_cons ?zbq ?zbr
       case zbq =>
        refine' ps_if ?zbs ?zbt ?zbu
        case zbs => exact (pt_cmpR op_eq (pe_ix (k_ix (K := K) rfl) (pv 1) pe_int (fun _ _ => rfl)) pe_int (nomark _))
        case zbt =>
         refine' pss_cons ?zbv ?zbw
         case zbv =>
          refine' ps_setB (i := 4) ?zbx ?zby ?zbz ?zca
          case zbx => exact nd
          case zby => exact rfl
          case zbz => exact (Or.inl rfl)
          case zca =>
           refine' pe_op ?zcb ?zcc ?zcd
           case zcb => exact op_cat
           case zcc => exact (pe_lst (pa_consK pe_int pa_nil))
           case zcd =>
            refine' pe_comp (LN := ["k"]) (FN := ["text"]) (fr := [0]) ?zce ?zcf ?zcg ?zch ?zci ?zcj
            case zce => exact rfl
            case zcf => exact (bk_of (by rfl))
            case zcg => exact (pi_range1 rfl B.b_range (pa_consC (pe_callB (k_len (K := K) rfl) (by rfl) B.b_len bt_len (pa_consN (pv 0) pa_nil)) pa_nil))
            case zch =>
             intro cl C fp pins s H
             exact (pg_name (i := 0) (show ((["k"] : List Str) ++ (["text"] : List Str)).Nodup by decide +kernel) rfl (Or.inl rfl))
            case zci =>
             intro cl C fp pins s H
             exact (pts_one (pt_cmpR op_eq (pe_ix ix_str (pv 1) (pv 0) (fun _ _ => rfl)) pe_str (nomark _)))
            case zcj =>
             intro cl C fp pins s H
             exact (pe_op op_add (pv 0) pe_int)
         case zbw =>
          refine' pss_one ?zck
          case zck =>
           refine' ps_setS (i := 3) ?zcl ?zcm ?zcn ?zco
           case zcl => exact nd
           case zcm => exact rfl
           case zcn => exact (Or.inl rfl)
           case zco =>
            refine' pe_ix ?zcp ?zcq ?zcr ?zcs
            case zcp => exact (k_ix (K := K) rfl)
            case zcq => exact (pv 4)
            case zcr =>
             refine' pe_op ?zct ?zcu ?zcv
             case zct => exact op_mod
             case zcu => exact (pe_ix (k_ix (K := K) rfl) (pv 1) pe_int (fun _ _ => rfl))
             case zcv => exact (pe_callB (k_len (K := K) rfl) (by rfl) B.b_len bt_len (pa_consN (pv 4) pa_nil))
            case zcs => exact (fun _ _ => rfl)
        case zbu => exact pss_nil
       case zbr =>
        refine' pss_cons ?zcw ?zcx
        case zcw =>
         refine' ps_setS (i := 5) ?zcy ?zcz ?zda ?zdb
         case zcy => exact nd
         case zcz => exact rfl
         case zda => exact (Or.inl rfl)
         case zdb =>
          refine' pe_ix ?zdc ?zdd ?zde ?zdf
          case zdc => exact (k_ix (K := K) rfl)
          case zdd =>
           refine' pe_lst ?zdg
           case zdg =>
            refine' pa_consK ?zdh ?zdi
            case zdh => exact pe_int
            case zdi => exact (pa_consK pe_int (pa_consB (pe_op op_mod (pe_op op_fdivB (pe_ix (k_ix (K := K) rfl) (pv 1) pe_int (fun _ _ => rfl)) pe_int) pe_int) pa_nil))
          case zde => exact (pe_op op_mod (pe_ix (k_ix (K := K) rfl) (pv 1) pe_int (fun _ _ => rfl)) pe_int)
          case zdf => exact (fun _ _ => rfl)
        case zcx =>
         refine' pss_one ?zdj
         case zdj =>
          refine' ps_ret ?zdk
          case zdk =>
           refine' pe_op ?zdl ?zdm ?zdn
           case zdl => exact op_addS
           case zdm =>
            refine' pe_op ?zdo ?zdp ?zdq
            case zdo => exact op_addS
            case zdp => exact (pe_slice sl_str (pv 0) po_none (po_some (pv 3)))
            case zdq => exact (pe_fn C_law_run (hr.mono (by first | decide | omega)) (by rfl) (pa_consN (pv 2) pa_nil))
           case zdn => exact (pe_slice sl_str (pv 0) (po_some (pe_op op_add (pv 3) (pv 5))) po_none)
  walk_at "rd"
  refine rd_ixaL hpk (v := .int p1) (atI_at (n := 1) rfl rfl) ?_
  walk_at "rd"
  refine rd_lenS' (big (by omega)) ?_
  walk_at "rd"
  refine rd_I (by omega) ?_
  obtain ⟨a, ha⟩ : ∃ a : Nat, p1 % ((t.length : Int) + 1) = a := ⟨_, (Int.toNat_of_nonneg (Int.emod_nonneg _ (by omega))).symm⟩
  have hat : a ≤ t.length := by
    have := Int.emod_lt_of_pos p1 (show (0 : Int) < (t.length : Int) + 1 by omega)
    omega
  rw [ha]
  walk_at "rd"
  refine rd_ixaL hpk (v := .int p0) (atI_at (n := 0) rfl rfl) ?_
  walk_at "rd"
  refine ite_dd (fun _ => ?_) (fun _ => ?_)
  · walk_at "rd"
    refine rd_slTo (by omega) (by omega) fun l1 => ?_
    walk_at "rd"
    refine use1 ⟨b, l, rfl, Bg, fun c H1 hc B1 b1 => ?_⟩
    refine rd_addS (big (by rw [len_one]; omega)) ?_
    walk_at "rd"
    refine rd_slFrom (by omega) (by omega) fun l2 => ?_
    refine rd_addS (big (by rw [len_app, len_one]; omega)) ?_
    exact k _ _ (asc_app (asc_app (asc_slice tasc) (asc_one hc)) (asc_slice tasc)) (by rw [len_app, len_app, len_one]; omega) B1 b1
  walk_at "rd"
  refine rd_ixaL hpk (v := .int p0) (atI_at (n := 0) rfl rfl) ?_
  walk_at "rd"
  refine ite_dd (fun _ => ?_) (fun _ => ?_)
  · walk_at "rd"
    refine rd_slTo (by omega) (by omega) fun l1 => ?_
    walk_at "rd"
    refine rd_slFrom (by omega) (by omega) fun l2 => ?_
    refine rd_addS (big (by omega)) ?_
    exact k _ _ (asc_app (asc_slice tasc) (asc_slice tasc)) (by rw [len_app]; omega) Bg (BSame.refl _ _)
  walk_at "rd"
  refine rd_ixaL hpk (v := .int p0) (atI_at (n := 0) rfl rfl) ?_
  walk_at "rd"
  refine ite_dd (fun _ => ?_) (fun _ => ?_)
  · walk_at "rd"
    refine rd_slTo (by omega) (by omega) fun l1 => ?_
    walk_at "rd"
    refine use1 ⟨b, l, rfl, Bg, fun c H1 hc B1 b1 => ?_⟩
    refine rd_addS (big (by rw [len_one]; omega)) ?_
    walk_at "rd"
    refine rd_slFrom (by omega) (by omega) fun l2 => ?_
    refine rd_addS (big (by rw [len_app, len_one]; omega)) ?_
    exact k _ _ (asc_app (asc_app (asc_slice tasc) (asc_one hc)) (asc_slice tasc)) (by rw [len_app, len_app, len_one]; omega) B1 b1
  refine rd_next ?_
  dsimp only
  refine rd_meet (fun σ Hx => ∃ (a : Nat) (c4 : Option V), σ = [some (.str t), some (.ref pk), some (.ref b), some (.int a), c4, none] ∧ a ≤ t.length ∧ Same H Hx) ?_ fun N hN => ?_
  rotate_left
  · walk_at "rd"
    refine rd_ixaL hpk (v := .int p0) (atI_at (n := 0) rfl rfl) ?_
    walk_at "rd"
    refine ite_dd (fun _ => ?_) (fun _ => ?_)
    · walk_at "rd"
      walk_at "mk"; intro q1 hq1
      have s1 := Same.new (o := .lst [V.int 0]) hq1
      have e1 : upd H q1 (.lst [V.int 0]) q1 = some (.lst [V.int 0]) := upd_same
      generalize upd H q1 (.lst [V.int 0]) = H1 at s1 e1
      walk_at "rd"
      refine rd_lenS' (big (by omega)) ?_
      walk_at "rd"
      refine irK_of (by omega) (by omega) ?_
      refine cw_range (n := ((t.length : Nat) : Int).toNat) (big (by omega)) (fun j ys σ Hz => (∃ x1, σ = [x1, some (.str t)]) ∧ Hz = H1 ∧ ∃ ms : List Nat, ys = ms.map (fun m : Nat => V.int (m : Int)) ∧ (∀ m ∈ ms, m ≤ j) ∧ ms.length ≤ j) ⟨⟨none, rfl⟩, rfl, [], rfl, by simp, Nat.le_refl _⟩ ?_ ?_
      · rintro j ys σ Hz hj hle hlt ⟨⟨x1, rfl⟩, rfl, ms, rfl, hm, hml⟩
        have hjl : j < (cs t).length := by rw [cs_len]; omega
        walk_at "rd"
        refine ⟨t, _, (cs t)[j], rfl, rfl, big (by omega), atI_at (n := j) (by simp) (List.getElem?_eq_getElem hjl), ?_⟩
        walk_at "rd"
        refine ite_dd (fun _ => ?_) (fun _ => ?_)
        · walk_at "rd"
          refine ⟨hlt, by simpa using hle, ⟨_, rfl⟩, rfl, ms ++ [j + 1], by simp, fun m hm' => ?_, by simp; omega⟩
          rcases List.mem_append.mp hm' with hm' | hm'
          · have := hm m hm'; omega
          · rw [List.mem_singleton.mp hm']; exact Nat.le_refl _
        · exact ⟨by simpa using Nat.le_succ_of_le hle, ⟨_, rfl⟩, rfl, ms, rfl, fun m hm' => by have := hm m hm'; omega, by omega⟩
      rintro ys σ Hz _ ⟨⟨x1, rfl⟩, rfl, ms, rfl, hm, hml⟩ p3 hp3
      have s3 := Same.new (o := .lst (ms.map fun m : Nat => V.int (m : Int))) hp3
      have e3 : upd Hz p3 (.lst (ms.map fun m : Nat => V.int (m : Int))) p3 = some (.lst (ms.map fun m : Nat => V.int (m : Int))) := upd_same
      generalize upd Hz p3 (.lst (ms.map fun m : Nat => V.int (m : Int))) = H3 at s3 e3
      refine rd_cat (s3 _ _ e1) e3 (big (by simp; omega)) fun p4 hp4 => ?_
      have s4 := Same.new (o := .lst ([V.int 0] ++ ms.map fun m : Nat => V.int (m : Int))) hp4
      have e4 : upd H3 p4 (.lst ([V.int 0] ++ ms.map fun m : Nat => V.int (m : Int))) p4 = some (.lst ((0 :: ms).map fun m : Nat => V.int (m : Int))) := upd_same
      generalize upd H3 p4 (.lst ([V.int 0] ++ ms.map fun m : Nat => V.int (m : Int))) = H4 at s4 e4
      have s14 := (s1.trans s3).trans s4
      walk_at "rd"
      refine rd_ixaL (s14 _ _ hpk) (v := .int p1) (atI_at (n := 1) rfl rfl) ?_
      walk_at "rd"
      refine rd_lenL' (SqL.of e4) ?_
      walk_at "rd"
      refine rd_I (by simp) ?_
      have hpos : (0 : Int) < (((0 :: ms).map fun m : Nat => V.int (m : Int)).length : Int) := by simp
      obtain ⟨i, hi⟩ : ∃ i : Nat, p1 % (((0 :: ms).map fun m : Nat => V.int (m : Int)).length : Int) = i := ⟨_, (Int.toNat_of_nonneg (Int.emod_nonneg _ (by omega))).symm⟩
      have hil : i < (0 :: ms).length := by
        have := Int.emod_lt_of_pos p1 hpos
        rw [hi, List.length_map] at this
        omega
      rw [hi]
      refine rd_ixaL e4 (v := .int ((0 :: ms)[i] : Nat)) (atI_at (n := i) rfl (by rw [List.getElem?_map, List.getElem?_eq_getElem hil]; rfl)) ?_
      walk_at "rd"
      refine hN _ _ ⟨(0 :: ms)[i], _, rfl, ?_, s14⟩
      rcases List.mem_cons.mp (List.getElem_mem hil) with e | e
      · rw [e]; exact Nat.zero_le _
      · have := hm _ e; omega
    · walk_at "rd"
      exact hN _ _ ⟨a, _, rfl, hat, Same.refl _⟩
  rintro σ Hx ⟨a, c4, rfl, hat, sx⟩
  walk_at "rd"
  refine rd_ixaL (sx _ _ hpk) (v := .int p2) (atI_at (n := 2) rfl rfl) ?_
  walk_at "rd"
  refine rd_I (cdivb_of (by decide) (by decide +kernel)) ?_
  walk_at "rd"
  refine rd_I (by decide) ?_
  walk_at "rd"
  walk_at "mk"; intro q5 hq5
  have B5 := (Bg.mono sx).mono (Same.new (o := .lst [V.int 0, V.int 0, V.int (p2 / 3 % 13)]) hq5)
  have s5 := Same.new (o := .lst [V.int 0, V.int 0, V.int (p2 / 3 % 13)]) hq5
  have e5 : upd Hx q5 (.lst [V.int 0, V.int 0, V.int (p2 / 3 % 13)]) q5 = some (.lst [V.int 0, V.int 0, V.int (p2 / 3 % 13)]) := upd_same
  generalize upd Hx q5 (.lst [V.int 0, V.int 0, V.int (p2 / 3 % 13)]) = H5 at s5 e5 B5
  have sx5 := sx.trans s5
  walk_at "rd"
  refine rd_ixaL (sx5 _ _ hpk) (v := .int p2) (atI_at (n := 2) rfl rfl) ?_
  walk_at "rd"
  refine rd_I (by decide) ?_
  obtain ⟨g, hg, hge⟩ : ∃ g : Nat, g ≤ 12 ∧ atI [V.int 0, V.int 0, V.int (p2 / 3 % 13)] (p2 % 3) = some (V.int (g : Int)) := by
    have h1 := Int.emod_nonneg p2 (show (3 : Int) ≠ 0 by decide)
    have h2 := Int.emod_lt_of_pos p2 (show (0 : Int) < 3 by decide)
    have h3 := Int.emod_nonneg (p2 / 3) (show (13 : Int) ≠ 0 by decide)
    have h4 := Int.emod_lt_of_pos (p2 / 3) (show (0 : Int) < 13 by decide)
    rcases (show p2 % 3 = 0 ∨ p2 % 3 = 1 ∨ p2 % 3 = 2 by omega) with e | e | e
    · exact ⟨0, by decide, atI_at (n := 0) (by rw [e]; rfl) rfl⟩
    · exact ⟨0, by decide, atI_at (n := 1) (by rw [e]; rfl) rfl⟩
    · exact ⟨(p2 / 3 % 13).toNat, by omega, atI_at (n := 2) (by rw [e]; rfl) (by simp; omega)⟩
  refine rd_ixaL e5 hge ?_
  walk_at "rd"
  refine rd_slTo (by omega) (by omega) fun l1 => ?_
  walk_at "rd"
  refine use1 ⟨b, l, rfl, B5, fun zr H6 az lz B6 b6 => ?_⟩
  refine rd_addS (big (by omega)) ?_
  walk_at "rd"
  refine rd_slFrom (by omega) (by omega) fun l2 => ?_
  refine rd_addS (big (by rw [len_app]; omega)) ?_
  exact k _ _ (asc_app (asc_app (asc_slice tasc) az) (asc_slice tasc)) (by rw [len_app, len_app]; omega) B6 ((BSame.of sx5).trans b6)

end
end My

end
section
set_option Elab.async false
set_option linter.all false
set_option maxRecDepth 100000
set_option maxHeartbeats 4000000

namespace My
open PySem L2

section
variable {P : Program} {w : World} {K : PySem.W.Frag} {mg : Str → Option Value} {base : Heap}
noncomputable def cntOf (bx rw df : Int) (k : Str) : Int := if k = "box" then bx else if k = "row" then rw else df
noncomputable def intFits (bx rw df : Int) (k : Str) (n : Int) : Bool := if k = "number" then true else if k = "factor" then decide (-99 ≤ n) && decide (n ≤ 99) else decide (0 ≤ n) && decide (n < cntOf bx rw df k)
noncomputable def boxFits (bx rw df : Int) : D → Bool
  | .int n => intFits bx rw df "box" n
  | _ => false
noncomputable def partFits (bx rw df : Int) (k : Str) : D → Bool
  | .tup ds => decide (k = "boxes") && ds.all (boxFits bx rw df)
  | .int n => !decide (k = "boxes") && intFits bx rw df k n
  | _ => false
noncomputable def takesOf (ds : List PDef) (g : Int) : Int := ((ds[g.toNat]?).map (·.1)).getD 0
noncomputable def callFits (ds : List PDef) (r : Str × List D) : Bool := match r.2 with
  | [_, .int g, .tup qs] => decide ((qs.length : Int) = takesOf ds g)
  | _ => false
noncomputable def zipFits (bx rw df : Int) (ps : List D) (ks : List Str) : Bool := (ps.zip ks).all fun q => partFits bx rw df q.2 q.1
noncomputable def rowFits (bx rw : Int) (ds : List PDef) (r : Str × List D) : Bool := match partsT.lookup r.1 with
  | none => false
  | some ks => decide (r.2.length = ks.length) && zipFits bx rw ds.length r.2 ks && (!decide (r.1 = "call") || callFits ds r)
theorem parts_len {k : Str} {ks : List Str} (h : partsT.lookup k = some ks) : ks.length ≤ 3 := by
  have hm : ∀ (l : List (Str × List Str)), l.lookup k = some ks → (∀ q ∈ l, q.2.length ≤ 3) → ks.length ≤ 3 := by
    intro l
    induction l with
    | nil => intro h; cases h
    | cons q l ih =>
      intro h hl
      obtain ⟨a, b⟩ := q
      rw [List.lookup_cons] at h
      split at h
      · cases h; exact hl _ List.mem_cons_self
      · exact ih h fun q hq => hl q (List.mem_cons_of_mem _ hq)
  exact hm _ h (by decide +kernel)
noncomputable def kCall : List Str := ["box", "def", "boxes"]
theorem parts_call {ks : List Str} (lk : partsT.lookup (("call" : Str)) = some ks) : ks = kCall := by
  have : partsT.lookup (("call" : Str)) = some kCall := by decide +kernel
  rw [this] at lk
  exact (Option.some.inj lk).symm
noncomputable def defFits (ds : List PDef) (d : PDef) : Bool := (d.2.2.all (rowFits d.2.1 d.2.2.length ds)) && (match d.2.2.getLast? with | some r => decide (r.1 = "jump") || decide (r.1 = "back") | none => false)
noncomputable def headFits (d : PDef) : Bool := (decide (1 ≤ d.2.1) && decide (d.2.1 ≤ 8)) && ((decide (0 ≤ d.1) && decide (d.1 ≤ if d.2.1 < 4 then d.2.1 else 4)) && (decide (1 ≤ (d.2.2.length : Int)) && decide ((d.2.2.length : Int) ≤ 30)))
noncomputable def formedB (ds : List PDef) : Bool := (decide (1 ≤ (ds.length : Int)) && decide ((ds.length : Int) ≤ 6)) && (ds.all headFits && (decide ((ds.map (·.1)).headD 0 = 0) && ds.all (defFits ds)))
/-- what a part is when it was read -/
noncomputable def PartW : Nat → D → Prop
  | _, .int _ => True
  | _ + 1, .tup ds => ds.length ≤ 1000000 ∧ ∀ d ∈ ds, ∃ n, d = .int n
  | _, _ => False
structure PgW (ds : List PDef) : Prop where
  len : ds.length ≤ 1000000
  rows : ∀ d ∈ ds, d.2.2.length ≤ 1000000
  part : ∀ d ∈ ds, ∀ r ∈ d.2.2, r.2.length ≤ 1000000 ∧ ∀ p ∈ r.2, PartW 1 p
noncomputable def sp_formed : Sp := sp1 fun x H Q => ∃ p vs ds, x = .ref p ∧ H p = some (.lst vs) ∧ DefsAt [] H ds vs ∧ PgW ds ∧ ∀ H', Same H H' → Q (.bl (formedB ds)) H'

noncomputable def kindOf (c : Str) : Str := if c = "p" then "box" else if c = "i" then "number" else if c = "c" then "factor" else if c = "t" then "row" else if c = "f" then "def" else "boxes"
noncomputable def ltrs : List Str := ["p", "i", "c", "t", "f", "q"]
noncomputable def lowKV (n : Int) : List (Key × V) := [(.inr "c", .int (-99)), (.inr "i", .int n)]
noncomputable def lowOf (c : Str) (n : Int) : Int := if c = "c" then -99 else if c = "i" then n else 0
noncomputable def highKV (bx rw df n : Int) : List (Key × V) := [(.inr "p", .int (bx - 1)), (.inr "t", .int (rw - 1)), (.inr "f", .int (df - 1)), (.inr "c", .int 99), (.inr "i", .int n)]
noncomputable def highOf (bx rw df : Int) (c : Str) (n : Int) : Int := if c = "p" then bx - 1 else if c = "t" then rw - 1 else if c = "f" then df - 1 else if c = "c" then 99 else n
theorem low_get {c : Str} {n : Int} (h : c ∈ ltrs) : (valV (lowKV n) (Sum.inr c : Key)).getD (.int 0) = .int (lowOf c n) := by
  simp only [ltrs, List.mem_cons, List.not_mem_nil, or_false] at h
  rcases h with rfl | rfl | rfl | rfl | rfl | rfl <;> with_unfolding_all rfl
theorem high_get {bx rw df : Int} {c : Str} {n : Int} (h : c ∈ ltrs) (nq : c ≠ "q") : valV (highKV bx rw df n) (Sum.inr c : Key) = some (.int (highOf bx rw df c n)) := by
  simp only [ltrs, List.mem_cons, List.not_mem_nil, or_false] at h
  rcases h with rfl | rfl | rfl | rfl | rfl | rfl
  all_goals first | exact absurd rfl nq | with_unfolding_all rfl
theorem fits_int {bx rw df : Int} {c : Str} {n : Int} (h : c ∈ ltrs) (nq : c ≠ "q") : partFits bx rw df (kindOf c) (.int n) = (decide (lowOf c n ≤ n) && decide (n ≤ highOf bx rw df c n)) := by
  simp only [ltrs, List.mem_cons, List.not_mem_nil, or_false] at h
  have e1 : ∀ a : Int, decide (n ≤ a - 1) = decide (n < a) := fun a => by rw [Bool.eq_iff_iff]; simp; omega
  rcases h with rfl | rfl | rfl | rfl | rfl | rfl
  · rw [show kindOf "p" = "box" by decide +kernel, show lowOf "p" n = 0 by with_unfolding_all rfl, show highOf bx rw df "p" n = bx - 1 by with_unfolding_all rfl, e1]; with_unfolding_all rfl
  · rw [show kindOf "i" = "number" by decide +kernel, show lowOf "i" n = n by with_unfolding_all rfl, show highOf bx rw df "i" n = n by with_unfolding_all rfl]; simp; with_unfolding_all rfl
  · rw [show kindOf "c" = "factor" by decide +kernel]; with_unfolding_all rfl
  · rw [show kindOf "t" = "row" by decide +kernel, show lowOf "t" n = 0 by with_unfolding_all rfl, show highOf bx rw df "t" n = rw - 1 by with_unfolding_all rfl, e1]; with_unfolding_all rfl
  · rw [show kindOf "f" = "def" by decide +kernel, show lowOf "f" n = 0 by with_unfolding_all rfl, show highOf bx rw df "f" n = df - 1 by with_unfolding_all rfl, e1]; with_unfolding_all rfl
  · exact absurd rfl nq
theorem kind_q {c : Str} (h : c ∈ ltrs) : kindOf c = "boxes" ↔ c = "q" := by
  simp only [ltrs, List.mem_cons, List.not_mem_nil, or_false] at h
  rcases h with rfl | rfl | rfl | rfl | rfl | rfl <;> decide +kernel
theorem ints_of : ∀ {ds : List D}, (∀ d ∈ ds, ∃ n, d = .int n) → ∃ ns : List Int, ds = ns.map D.int
  | [], _ => ⟨[], rfl⟩
  | d :: ds, h => by
    obtain ⟨n, rfl⟩ := h d List.mem_cons_self
    obtain ⟨ns, rfl⟩ := ints_of fun d hd => h d (List.mem_cons_of_mem _ hd)
    exact ⟨n :: ns, rfl⟩
noncomputable def badQ (bx : Int) (ns : List Int) : List Int := ns.filter fun q => decide (q < 0) || decide (bx ≤ q)
theorem box_fits {bx rw df n : Int} : boxFits bx rw df (.int n) = (decide (0 ≤ n) && decide (n < bx)) := by with_unfolding_all rfl
theorem bad_fits {bx rw df : Int} {ns : List Int} : partFits bx rw df "boxes" (.tup (ns.map D.int)) = decide (badQ bx ns = []) := by
  rw [Bool.eq_iff_iff]
  simp only [partFits, decide_true, Bool.true_and, List.all_eq_true, decide_eq_true_eq, badQ, List.filter_eq_nil_iff, List.mem_map]
  constructor
  · intro h n hn
    have := h _ ⟨n, hn, rfl⟩
    rw [box_fits] at this
    simp at this ⊢
    omega
  · rintro h d ⟨n, hn, rfl⟩
    have := h n hn
    rw [box_fits]
    simp at this ⊢
    omega
theorem low_nd {n : Int} : ((lowKV n).map (·.1)).Nodup := by
  show [(Sum.inr "c" : Key), Sum.inr "i"].Nodup
  decide +kernel
theorem high_nd {bx rw df n : Int} : ((highKV bx rw df n).map (·.1)).Nodup := by
  show [(Sum.inr "p" : Key), Sum.inr "t", Sum.inr "f", Sum.inr "c", Sum.inr "i"].Nodup
  decide +kernel
noncomputable def sp_part_good : Sp := sp4 fun x1 x2 x3 x4 H Q => ∃ p vs t tk bx q ys c d, x1 = .ref p ∧ x2 = .ref t ∧ x3 = .str c ∧ H p = some (.lst vs) ∧ H t = some (.tup [.int tk, .int bx, .ref q]) ∧ H q = some (.lst ys) ∧ c ∈ ltrs ∧ Rep H d x4 ∧ PartW 1 d ∧ ∀ H', Same H H' → Q (.bl (partFits bx ys.length vs.length (kindOf c) d)) H'
theorem sc__law_part_good : FnScope ["program", "one", "letter", "part", "low", "high"] ["program", "one", "letter", "part"] (defScope s__law_part_good) := ⟨rfl, rfl, rfl, by decide +kernel, rfl, by decide +kernel, by decide +kernel⟩
theorem c__law_part_good (B : Blt mg) (T__law_part_good : TopFn K mg "_law_part_good" s__law_part_good ["program", "one", "letter", "part"]) : Callee P w K mg base "_law_part_good" 1 ["program", "one", "letter", "part"] sp_part_good := by
  refine T__law_part_good.ok4 sc__law_part_good fun f cdv A outer s H v1 v2 v3 v4 Q E hr h => ?_
  have nd := sc__law_part_good.nd
  have hu := hr.units
  have hu1 := hu_of hr
  obtain ⟨p, vs, t, tk, bx, q, ys, c, d, rfl, rfl, rfl, hp, ht, hq, hc, rd, pd, k⟩ := h
  refine' go_body [some (.ref p), some (.ref t), some (.str c), some v4, none, none] rfl ?hb ?hg
  case hb =>
   refine' pss_cons ?zb ?zc
   case zb =>
    refine' ps_if ?zd ?ze ?zf
    case zd => exact (pt_cmpR op_eq (pv 2) pe_str (nomark _))
    case ze =>
     refine' pss_one ?zg
     case zg =>
      refine' ps_ret ?zh
      case zh =>
       refine' pe_and ?zi ?zj
       case zi =>
        refine' pe_callB ?zk ?zl ?zm ?zn ?zo
        case zk => exact call_isi
        case zl => exact (by rfl)
        case zm => exact B.b_isinstance
        case zn => exact bt_isinstance
        case zo => exact (pa_consN (pv 3) (pa_consN (pe_bltn (v := .ty "tuple") (by rfl) B.b_tuple bt_tuple rfl) pa_nil))
       case zj =>
        refine' pe_one ?zp
        case zp =>
         refine' pe_cmpR ?zq ?zr ?zs ?zt
         case zq => exact (k_eqL (K := K) rfl hu)
         case zr =>
          refine' pe_comp (LN := ["q"]) (FN := ["one"]) (fr := [1]) ?zu ?zv ?zw ?zx ?zy ?zz
          case zu => exact rfl
          case zv => exact (bk_of (by rfl))
          case zw => exact (k_pi_tup (K := K) rfl (pv 3))
          case zx =>
           intro cl C fp pins s H
           exact (pg_name (i := 0) (show ((["q"] : List Str) ++ (["one"] : List Str)).Nodup by decide +kernel) rfl (Or.inl rfl))
          case zy =>
           intro cl C fp pins s H
           refine' pts_one ?zba
           case zba =>
            refine' PW.pt ?zbb
            case zbb => exact (pw_or (pt_cmpR op_lt (pv 0) pe_int (nomark _)) (pw_or1 (pt_cmpR op_ge (pv 0) (pe_ix (k_ix (K := K) rfl) (pv 1) pe_int (fun _ _ => rfl)) (nomark _))))
          case zz =>
           intro cl C fp pins s H
           exact (pv 0)
         case zs => exact (pe_lst pa_nil)
         case zt => exact (nomark _)
    case zf => exact pss_nil
   case zc =>
    refine' pss_cons ?zbc ?zbd
    case zbc =>
     refine' ps_if ?zbe ?zbf ?zbg
     case zbe =>
      refine' pt_val ?zbh
      case zbh =>
       refine' pe_callB ?zbi ?zbj ?zbk ?zbl ?zbm
       case zbi => exact call_isi
       case zbj => exact (by rfl)
       case zbk => exact B.b_isinstance
       case zbl => exact bt_isinstance
       case zbm => exact (pa_consN (pv 3) (pa_consN (pe_bltn (v := .ty "tuple") (by rfl) B.b_tuple bt_tuple rfl) pa_nil))
     case zbf => exact (pss_one (ps_ret pe_bl))
     case zbg => exact pss_nil
    case zbd =>
     refine' pss_cons ?zbn ?zbo
     case zbn =>
      refine' ps_setC (i := 4) ?zbp ?zbq ?zbr ?zbs
      case zbp => exact nd
      case zbq => exact rfl
      case zbr => exact (Or.inl rfl)
      case zbs =>
       refine' pe_dget2 ?zbt ?zbu ?zbv ?zbw ?zbx
       case zbt => exact hu1
       case zbu => exact (pe_disp (pps_cons pe_str (pe_un un_neg pe_int) (pps_cons pe_str (pv 3) pps_nil)) rfl rfl (List.cons_ne_nil _ _) (Nat.le_of_ble_eq_true rfl))
       case zbv => exact (pv 2)
       case zbw => exact pe_int
       case zbx => exact (M2.mk rfl rfl rfl rfl)
     case zbo =>
      refine' pss_cons ?zby ?zbz
      case zby =>
       refine' ps_setS (i := 5) ?zca ?zcb ?zcc ?zcd
       case zca => exact nd
       case zcb => exact rfl
       case zcc => exact (Or.inl rfl)
       case zcd =>
        refine' pe_dget ?zce ?zcf ?zcg ?zch
        case zce => exact hu1
        case zcf =>
         refine' pe_disp ?zci ?zcj ?zck ?zcl ?zcm
         case zci =>
          refine' pps_cons ?zcn ?zco ?zcp
          case zcn => exact pe_str
          case zco => exact (pe_op op_sub (pe_ix (k_ix (K := K) rfl) (pv 1) pe_int (fun _ _ => rfl)) pe_int)
          case zcp =>
           refine' pps_cons ?zcq ?zcr ?zcs
           case zcq => exact pe_str
           case zcr =>
            refine' pe_op ?zct ?zcu ?zcv
            case zct => exact op_sub
            case zcu => exact (pe_callB (k_len (K := K) rfl) (by rfl) B.b_len bt_len (pa_consS (pe_ix (k_ix (K := K) rfl) (pv 1) pe_int (fun _ _ => rfl)) pa_nil))
            case zcv => exact pe_int
           case zcs =>
            refine' pps_cons ?zcw ?zcx ?zcy
            case zcw => exact pe_str
            case zcx => exact (pe_op op_sub (pe_callB (k_len (K := K) rfl) (by rfl) B.b_len bt_len (pa_consN (pv 0) pa_nil)) pe_int)
            case zcy => exact (pps_cons pe_str pe_int (pps_cons pe_str (pv 3) pps_nil))
         case zcj => exact rfl
         case zck => exact rfl
         case zcl => exact (List.cons_ne_nil _ _)
         case zcm => exact (Nat.le_of_ble_eq_true rfl)
        case zcg => exact (pv 2)
        case zch => exact (fun _ _ => rfl)
      case zbz => exact (pss_one (ps_ret (pe_and (pe_cmpR op_le (pv 4) (pv 3) (nomark _)) (pe_one (pe_cmpR op_le (pv 3) (pv 5) (nomark _))))))
  walk_at "rd"
  refine ite_dd (fun e => ?_) (fun nq => ?_)
  · have ek : kindOf c = "boxes" := (kind_q hc).mpr e
    rw [ek] at k
    walk_at "rd"
    cases d with
    | non => simp [PartW] at pd
    | bl _ => simp [PartW] at pd
    | str _ => simp [PartW] at pd
    | int n =>
      obtain rfl := rep_int_inv rd
      refine rd_isi rfl (by simp) ⟨_, rfl, iteF ?_⟩
      simpa [partFits] using k H (Same.refl _)
    | tup ds =>
      obtain ⟨hl, hd⟩ := pd
      obtain ⟨ns, rfl⟩ := ints_of hd
      rw [List.length_map] at hl
      refine rd_isi (tyN_rep rd) (by simp) ⟨_, rfl, iteT ?_⟩
      walk_at "rd"
      refine itK_rep rd fun a xs e ha rx => ?_
      have hlen := rx.length
      rw [List.length_map] at hlen
      refine cw_tup (xs := xs) (big_le (by omega)) (fun i ys σ H1 => (∃ x1, σ = [x1, some (.ref t)]) ∧ H1 = H ∧ ys = (badQ bx (ns.take i)).map V.int) ⟨⟨none, rfl⟩, rfl, rfl⟩ (fun i ys σ H1 _ ⟨_, e, _⟩ => by rw [e]; exact SqT.of ha) ?_ ?_
      · rintro i x ys σ H1 hx hle hlt ⟨⟨x1, rfl⟩, rfl, rfl⟩
        obtain ⟨d, ed, rd'⟩ := rx.get' hx
        rw [List.getElem?_map] at ed
        obtain ⟨n, en, rfl⟩ := Option.map_eq_some_iff.mp ed
        obtain rfl := rep_int_inv rd'
        have et : badQ bx (ns.take (i + 1)) = badQ bx (ns.take i) ++ badQ bx [n] := by
          rw [List.take_add_one, en]; simp [badQ]
        have yes : n < 0 ∨ bx ≤ n → badQ bx [n] = [n] := fun h => by simp [badQ]; omega
        have no : ¬ n < 0 → ¬ bx ≤ n → badQ bx [n] = [] := fun h h' => by simp [badQ]; omega
        walk_at "rd"
        refine ite_dd (fun h1 => ?_) (fun h1 => ?_)
        · walk_at "rd"
          refine ⟨hlt, by simpa using hle, ⟨_, rfl⟩, rfl, ?_⟩
          rw [et, yes (.inl h1)]; simp
        · walk_at "rd"
          refine rd_ixaT ht rfl ?_
          walk_at "rd"
          refine ite_dd (fun h2 => ?_) (fun h2 => ?_)
          · walk_at "rd"
            refine ⟨hlt, by simpa using hle, ⟨_, rfl⟩, rfl, ?_⟩
            rw [et, yes (.inr h2)]; simp
          · refine ⟨by simp at hle ⊢; omega, ⟨_, rfl⟩, rfl, ?_⟩
            rw [et, no h1 h2]; simp
      · rintro ys σ H1 hyl ⟨⟨x1, rfl⟩, eH, rfl⟩ pa hpa
        subst eH
        rw [← hlen, List.take_length]
        have s3 := Same.new (o := .lst ((badQ bx ns).map V.int)) hpa
        have e3 : upd H1 pa (.lst ((badQ bx ns).map V.int)) pa = some (.lst ((badQ bx ns).map V.int)) := upd_same
        generalize upd H1 pa (.lst ((badQ bx ns).map V.int)) = H3 at s3 e3
        walk_at "rd"
        walk_at "mk"; intro p4 hp4
        have s4 := Same.new (o := .lst []) hp4
        refine rd_eqLI (ns := badQ bx ns) (ms := []) (SqL.of (s4 _ _ e3)) (SqL.of upd_same) ?_
        have k := k _ (s3.trans s4)
        rw [bad_fits] at k
        exact k
  · have nk : ¬ kindOf c = "boxes" := fun z => nq ((kind_q hc).mp z)
    walk_at "rd"
    cases d with
    | non => simp [PartW] at pd
    | bl _ => simp [PartW] at pd
    | str _ => simp [PartW] at pd
    | tup ds =>
      refine rd_isi (tyN_rep rd) (by simp) (rd_bl (iteT ?_))
      walk_at "rd"
      simpa [partFits, nk] using k H (Same.refl _)
    | int n =>
      obtain rfl := rep_int_inv rd
      rw [fits_int hc nq] at k
      refine rd_isi rfl (by simp) (rd_bl (iteF ?_))
      walk_at "rd"
      refine rd_dispG fun p1 hp1 => ?_
      have s1 := Same.new (o := .dK []) hp1
      walk_at "rd"
      refine disp_of (lowKV n) rfl upd_same low_nd (by show 2 ≤ 15; decide) ?_
      rw [upd_upd]
      have s2 := Same.new (o := .dK (lowKV n)) hp1
      have e2 : upd H p1 (.dK (lowKV n)) p1 = some (.dK (lowKV n)) := upd_same
      generalize upd H p1 (.dK (lowKV n)) = H2 at s2 e2
      refine ⟨p1, rfl, .inl ⟨_, .inl e2⟩, ?_⟩
      walk_at "rd"
      refine ⟨_, .inl ⟨_, Sum.inr c, .inl e2, rfl, rfl⟩, ?_⟩
      rw [low_get hc]
      walk_at "rd"
      refine rd_dispG fun p3 hp3 => ?_
      have s3 := Same.new (o := .dK []) hp3
      have s03 := s2.trans s3
      walk_at "rd"
      refine rd_ixaT (s03 _ _ ht) rfl ?_
      walk_at "rd"
      refine rd_ixaT (s03 _ _ ht) rfl ?_
      walk_at "rd"
      refine rd_lenL' (SqL.of (s03 _ _ hq)) ?_
      walk_at "rd"
      refine rd_lenL' (SqL.of (s03 _ _ hp)) ?_
      walk_at "rd"
      refine disp_of (highKV bx ys.length vs.length n) rfl upd_same high_nd (by show 5 ≤ 15; decide) ?_
      rw [upd_upd]
      have s4 := Same.new (o := .dK (highKV bx ys.length vs.length n)) hp3
      have e4 : upd H2 p3 (.dK (highKV bx ys.length vs.length n)) p3 = some (.dK (highKV bx ys.length vs.length n)) := upd_same
      generalize upd H2 p3 (.dK (highKV bx ys.length vs.length n)) = H4 at s4 e4
      have k := k H4 (s2.trans s4)
      walk_at "rd"
      refine ⟨p3, _, rfl, .inl ⟨_, Sum.inr c, .inl e4, rfl, (high_get hc nq).symm⟩, ?_⟩
      walk_at "rd"
      refine ite_dd (fun h1 => ?_) (fun h1 => ?_)
      · walk_at "rd"
        simpa [h1] using k
      · simpa [h1] using k

end
end My

end
section
set_option Elab.async false
set_option linter.all false
set_option maxRecDepth 100000
set_option maxHeartbeats 4000000

namespace My
open PySem L2

section
variable {P : Program} {w : World} {K : PySem.W.Frag} {mg : Str → Option Value} {base : Heap}
noncomputable def kindsOf (ls : Str) : List Str := ls.cps.toList.map fun c => kindOf ⟨#[c]⟩
theorem parts_map : partsT = lettersL.map fun q => (q.1, kindsOf q.2) := by decide +kernel
theorem look_map {wd : Str} {f : Str → List Str} : ∀ (l : List (Str × Str)), (l.map fun q => (q.1, f q.2)).lookup wd = (l.lookup wd).map f
  | [] => rfl
  | q :: l => by
    rw [List.map_cons, List.lookup_cons, List.lookup_cons, look_map l]
    cases wd == q.1 <;> rfl
theorem val_map {wd : Str} : ∀ (l : List (Str × Str)), valV (l.map fun q => ((Sum.inr q.1 : Key), V.str q.2)) (Sum.inr wd) = (l.lookup wd).map V.str
  | [] => rfl
  | q :: l => by
    rw [List.lookup_cons, List.map_cons]
    by_cases e : wd = q.1
    · rw [beq_iff_eq.mpr e]
      subst e
      simp [valV]
    · have e1 : (wd == q.1) = false := by simpa using e
      rw [e1]
      have e2 : ¬ q.1 = wd := fun z => e z.symm
      have := val_map (wd := wd) l
      simpa [valV, e2] using this
theorem look_in {wd ls : Str} (h : lettersL.lookup wd = some ls) : (wd, ls) ∈ lettersL := by
  have : ∀ (l : List (Str × Str)), l.lookup wd = some ls → (wd, ls) ∈ l := by
    intro l
    induction l with
    | nil => intro h; cases h
    | cons q l ih =>
      intro h
      obtain ⟨a, b⟩ := q
      rw [List.lookup_cons] at h
      split at h
      · next e => cases h; rw [beq_iff_eq.mp e]; exact List.mem_cons_self
      · exact List.mem_cons_of_mem _ (ih h)
  exact this _ h
theorem ls_ltrs {wd ls : Str} (h : lettersL.lookup wd = some ls) : ∀ c ∈ ls.cps.toList, (⟨#[c]⟩ : Str) ∈ ltrs := by
  have hk : ∀ q ∈ lettersL, ∀ c ∈ q.2.cps.toList, (⟨#[c]⟩ : Str) ∈ ltrs := by decide +kernel
  exact hk _ (look_in h)
theorem rd_lenS {K : PySem.W.Frag} {H : Hp} {x : Str} {Q : VK} (h : x.length ≤ PySem.sizeLine) (q : Q (.int x.length) H) : rLen K [.str x] H Q := ⟨_, _, rfl, ⟨h, rfl⟩, q⟩
noncomputable def sp_row_good : Sp := sp3 fun x1 x2 x3 H Q => ∃ p vs ds d r, x1 = .ref p ∧ H p = some (.lst vs) ∧ DefsAt [] H ds vs ∧ DefAt [] H d x2 ∧ Rep H (rowD r) x3 ∧ (∀ d ∈ r.2, PartW 1 d) ∧ r.2.length ≤ 1000000 ∧ ∀ H', Same H H' → Q (.bl (rowFits d.2.1 d.2.2.length ds r)) H'
theorem sc__law_row_good : FnScope ["program", "one", "row", "letters", "k"] ["program", "one", "row"] (defScope s__law_row_good) := ⟨rfl, rfl, rfl, by decide +kernel, rfl, by decide +kernel, by decide +kernel⟩
theorem c__law_row_good (B : Blt mg) (T__law_row_good : TopFn K mg "_law_row_good" s__law_row_good ["program", "one", "row"]) (C_law_letters : Callee P w K mg base "_law_letters" 1 [] sp_letters) (C_law_part_good : Callee P w K mg base "_law_part_good" 1 ["program", "one", "letter", "part"] sp_part_good) : Callee P w K mg base "_law_row_good" 2 ["program", "one", "row"] sp_row_good := by
  refine T__law_row_good.ok3 sc__law_row_good fun f cdv A outer s H v1 v2 v3 Q E hr h => ?_
  have nd := sc__law_row_good.nd
  have hu1 := hu_of hr
  obtain ⟨p, vs, ds, d, r, rfl, hp, D0, DA, rr, hpd, hl, k⟩ := h
  obtain ⟨wd, ps⟩ := r
  obtain ⟨t, q, ys, rfl, hat, hq, _, ry⟩ := DA
  have hyl := ry.length
  rw [List.length_map] at hyl
  refine' go_body [some (.ref p), some (.ref t), some v3, none, none] rfl ?hb ?hg
  case hb =>
   refine' pss_cons ?zb ?zc
   case zb =>
    refine' ps_setC (i := 3) ?zd ?ze ?zf ?zg
    case zd => exact nd
    case ze => exact rfl
    case zf => exact (Or.inl rfl)
    case zg =>
     refine' pe_dget1 ?zh ?zi ?zj ?zk
     case zh => exact hu1
     case zi => exact (pe_fn0 C_law_letters (hr.mono (by first | decide | omega)) (by rfl))
     case zj => exact (pe_ix (k_ix (K := K) rfl) (pv 2) pe_int (fun _ _ => rfl))
     case zk => exact (M1.mk rfl rfl rfl rfl)
   case zc =>
    refine' pss_cons ?zl ?zm
    case zl =>
     refine' ps_if ?zn ?zo ?zp
     case zn =>
      refine' PW.pt ?zq
      case zq =>
       refine' pw_or ?zr ?zs
       case zr => exact (pt_cmpR op_isN' (pv 3) pe_non (nomark _))
       case zs =>
        refine' pw_or1 ?zt
        case zt =>
         refine' pt_cmpR ?zu ?zv ?zw ?zx
         case zu => exact op_ne
         case zv => exact (pe_callB (k_len (K := K) rfl) (by rfl) B.b_len bt_len (pa_consN (pv 2) pa_nil))
         case zw => exact (pe_op op_add pe_int (pe_callB (k_len (K := K) rfl) (by rfl) B.b_len bt_len (pa_consN (pv 3) pa_nil)))
         case zx => exact (nomark _)
     case zo => exact (pss_one (ps_ret pe_bl))
     case zp => exact pss_nil
    case zm =>
     refine' pss_cons ?zy ?zz
     case zy =>
      refine' ps_for ?zba ?zbb ?zbc ?zbd ?zbe
      case zba => exact PassesOwn.never
      case zbb => exact rfl
      case zbc => exact (pi_range1 rfl B.b_range (pa_consC (pe_callB (k_len (K := K) rfl) (by rfl) B.b_len bt_len (pa_consN (pv 3) pa_nil)) pa_nil))
      case zbd => exact (pg_name (i := 4) nd rfl (Or.inl rfl))
      case zbe =>
       refine' pss_one ?zbf
       case zbf =>
        refine' ps_if ?zbg ?zbh ?zbi
        case zbg =>
         refine' pt_not ?zbj
         case zbj =>
          refine' pt_val ?zbk
          case zbk =>
           refine' pe_fn ?zbl ?zbm ?zbn ?zbo
           case zbl => exact C_law_part_good
           case zbm => exact (hr.mono (by first | decide | omega))
           case zbn => exact (by rfl)
           case zbo =>
            refine' pa_consN ?zbp ?zbq
            case zbp => exact (pv 0)
            case zbq =>
             refine' pa_consN ?zbr ?zbs
             case zbr => exact (pv 1)
             case zbs =>
              refine' pa_consS ?zbt ?zbu
              case zbt => exact (pe_ix ix_str (pv 3) (pv 4) (fun _ _ => rfl))
              case zbu => exact (pa_consS (pe_ix (k_ix (K := K) rfl) (pv 2) (pe_op op_add pe_int (pv 4)) (fun _ _ => rfl)) pa_nil)
        case zbh => exact (pss_one (ps_ret pe_bl))
        case zbi => exact pss_nil
     case zz =>
      refine' pss_one ?zbv
      case zbv =>
       refine' ps_ret ?zbw
       case zbw =>
        refine' pe_or ?zbx ?zby
        case zbx => exact (pe_cmpR op_ne (pe_ix (k_ix (K := K) rfl) (pv 2) pe_int (fun _ _ => rfl)) pe_str (nomark _))
        case zby =>
         refine' pe_one ?zbz
         case zbz =>
          refine' pe_cmpR ?zca ?zcb ?zcc ?zcd
          case zca => exact op_eq
          case zcb => exact (pe_callB (k_len (K := K) rfl) (by rfl) B.b_len bt_len (pa_consS (pe_ix (k_ix (K := K) rfl) (pv 2) pe_int (fun _ _ => rfl)) pa_nil))
          case zcc =>
           refine' pe_ix ?zce ?zcf ?zcg ?zch
           case zce => exact (k_ix (K := K) rfl)
           case zcf => exact (pe_ix (k_ix (K := K) rfl) (pv 0) (pe_ix (k_ix (K := K) rfl) (pv 2) pe_int (fun _ _ => rfl)) (fun _ _ => rfl))
           case zcg => exact pe_int
           case zch => exact (fun _ _ => rfl)
          case zcd => exact (nomark _)
  walk_at "rd"
  refine use0 fun pl H1 hpl hl1 s1 => ⟨pl, rfl, .inl ⟨_, .inl hl1⟩, ?_⟩
  walk_at "rd"
  refine rd_ixR (n := 0) (rr.mono s1.ts) rfl rfl fun u ru => ?_
  obtain rfl : u = .str wd := by rwa [Rep] at ru
  refine ⟨_, .inl ⟨_, Sum.inr wd, .inl hl1, rfl, rfl⟩, ?_⟩
  rw [show valV lettersKV (Sum.inr wd) = (lettersL.lookup wd).map V.str from val_map _]
  have lkp : partsT.lookup wd = (lettersL.lookup wd).map kindsOf := by rw [parts_map]; exact look_map _
  cases lk : lettersL.lookup wd with
  | none =>
    rw [lk] at lkp
    rw [Option.map_none, Option.getD_none]
    walk_at "rd"
    refine ite_dy rfl ?_
    walk_at "rd"
    have lkp : partsT.lookup wd = none := lkp
    simpa [rowFits, lkp] using k H1 s1
  | some ls =>
    rw [lk] at lkp
    have lkp : partsT.lookup wd = some (kindsOf ls) := lkp
    have h3 := parts_len lkp
    have hkl : (kindsOf ls).length = ls.cps.size := by simp [kindsOf]
    have hls : ls.length = ls.cps.size := rfl
    rw [Option.map_some, Option.getD_some]
    walk_at "rd"
    refine ite_dn (fun z => by cases z) ?_
    walk_at "rd"
    refine rd_lenR (rr.mono s1.ts) ?_
    walk_at "rd"
    refine rd_lenS (big_le (by omega)) ?_
    walk_at "rd"
    refine ite_nd (fun ne => ?_) (fun e => ?_)
    · walk_at "rd"
      have k := k H1 s1
      have ne : ¬ ps.length = (kindsOf ls).length := fun z => ne (by rw [List.length_cons]; simp; omega)
      simpa [rowFits, lkp, ne] using k
    · have el : ps.length = (kindsOf ls).length := by rw [List.length_cons] at e; simp at e; omega
      walk_at "rd"
      refine rd_lenS (big_le (by omega)) ?_
      walk_at "rd"
      refine irK_of (by omega) (by omega) ?_
      refine for_range (n := (ls.length : Int).toNat) (fun i σ Hx => (∃ x4, σ = [some (.ref p), some (.ref t), some v3, some (.str ls), x4]) ∧ Same H1 Hx ∧ ∀ j e c, j < i → ps[j]? = some e → ls.cps.toList[j]? = some c → partFits d.2.1 ys.length vs.length (kindOf ⟨#[c]⟩) e = true) ⟨⟨none, rfl⟩, Same.refl _, fun j _ _ h => by omega⟩ ?_ ?_
      · rintro i σ Hx hi ⟨⟨x4, rfl⟩, s2, inv⟩
        have hi' : i < ls.cps.toList.length := by simp; omega
        have hip : i < ps.length := by simp at hi'; omega
        have s02 := s1.trans s2
        have rr2 : Rep Hx (.tup (.str wd :: ps)) v3 := rr.mono s02.ts
        walk_at "rd"
        rw [show (0 : Int) + (i : Int) = (i : Int) by omega]
        refine ⟨ls, i, ls.cps.toList[i], rfl, rfl, big_le (by omega), atI_at rfl (List.getElem?_eq_getElem hi'), ?_⟩
        walk_at "rd"
        refine rd_ixR (n := i + 1) (d := ps[i]) rr2 (by omega) (by simp [hip]) fun v rv => ?_
        walk_at "rd"
        refine use4 ⟨p, vs, t, d.1, d.2.1, q, ys, _, ps[i], rfl, rfl, rfl, s02 _ _ hp, s02 _ _ hat, s02 _ _ hq, ls_ltrs lk _ (List.getElem_mem hi'), rv, hpd _ (List.getElem_mem hip), fun H3 s3 => ?_⟩
        refine ⟨_, rfl, ?_⟩
        cases hf : partFits d.2.1 ys.length vs.length (kindOf ⟨#[ls.cps.toList[i]]⟩) ps[i] with
        | false =>
          walk_at "rd"
          have k := k H3 (s02.trans s3)
          have zf : zipFits d.2.1 d.2.2.length ds.length ps (kindsOf ls) = false := by
            rw [Bool.eq_false_iff]
            intro z
            have := List.all_eq_true.mp z (ps[i], kindOf ⟨#[ls.cps.toList[i]]⟩) (by
              rw [List.mem_iff_getElem?]
              refine ⟨i, ?_⟩
              rw [List.getElem?_zip_eq_some]
              refine ⟨List.getElem?_eq_getElem hip, ?_⟩
              unfold kindsOf
              rw [List.getElem?_map, List.getElem?_eq_getElem hi']
              rfl)
            rw [hyl, D0.length] at this
            rw [this] at hf
            cases hf
          simpa [rowFits, lkp, el, zf] using k
        | true =>
          walk_at "rd"
          refine ⟨⟨_, rfl⟩, s2.trans s3, fun j e c hj ej ec => ?_⟩
          by_cases h : j = i
          · subst h
            rw [List.getElem?_eq_getElem hip] at ej
            rw [List.getElem?_eq_getElem hi'] at ec
            cases ej; cases ec
            exact hf
          · exact inv j e c (by omega) ej ec
      · rintro σ Hx ⟨⟨x4, rfl⟩, s2, inv⟩
        have s02 := s1.trans s2
        have rr3 : Rep Hx (.tup (.str wd :: ps)) v3 := rr.mono s02.ts
        have k := k Hx s02
        have hz : zipFits d.2.1 d.2.2.length ds.length ps (kindsOf ls) = true := by
          refine List.all_eq_true.mpr fun x hx => ?_
          obtain ⟨i, ei⟩ := List.mem_iff_getElem?.mp hx
          rw [List.getElem?_zip_eq_some] at ei
          obtain ⟨e1, e2⟩ := ei
          unfold kindsOf at e2
          rw [List.getElem?_map] at e2
          obtain ⟨c, ec, e2⟩ := Option.map_eq_some_iff.mp e2
          have hi := (List.getElem?_eq_some_iff.mp ec).1
          have := inv i x.1 c (by simp at hi; omega) e1 ec
          rw [← e2, hyl, D0.length]
          exact this
        walk_at "rd"
        refine rd_ixR (n := 0) rr3 rfl rfl fun u ru => ?_
        obtain rfl : u = .str wd := by rwa [Rep] at ru
        walk_at "rd"
        refine ite_nd (fun nc => ?_) (fun ec => ?_)
        · simpa [rowFits, lkp, el, hz, nc] using k
        · subst ec
          rw [parts_call lkp] at el hz lkp
          match ps, el, hz, hpd, rr3, k with
          | [d1, d2, d3], _, hz, hpd, rr3, k =>
            have hz0 := hz
            simp only [zipFits, kCall, List.zip_cons_cons, List.zip_nil_right, List.all_cons, List.all_nil, Bool.and_true, Bool.and_eq_true] at hz
            obtain ⟨_, z2, z3⟩ := hz
            have nd' : ¬ ("def" : Str) = "boxes" := by decide +kernel
            have n1 : ¬ ("def" : Str) = "number" := by decide +kernel
            have n2 : ¬ ("def" : Str) = "factor" := by decide +kernel
            have n3 : ¬ ("def" : Str) = "box" := by decide +kernel
            have n4 : ¬ ("def" : Str) = "row" := by decide +kernel
            have hd2 : ∃ g : Int, d2 = .int g ∧ 0 ≤ g ∧ g < ds.length := by
              cases d2 with
              | int g => simp [partFits, intFits, cntOf, nd', n1, n2, n3, n4] at z2; exact ⟨g, rfl, z2.1, z2.2⟩
              | tup _ => simp [partFits, nd'] at z2
              | non => simp [partFits] at z2
              | bl _ => simp [partFits] at z2
              | str _ => simp [partFits] at z2
            have hd3 : ∃ qs, d3 = .tup qs := by
              cases d3 with
              | tup qs => exact ⟨qs, rfl⟩
              | int g => simp [partFits] at z3
              | non => simp [partFits] at z3
              | bl _ => simp [partFits] at z3
              | str _ => simp [partFits] at z3
            obtain ⟨g, rfl, g0, g1⟩ := hd2
            obtain ⟨qs, rfl⟩ := hd3
            walk_at "rd"
            refine rd_ixR (n := 3) rr3 rfl rfl fun u ru => ?_
            walk_at "rd"
            refine rd_lenR ru ?_
            walk_at "rd"
            refine rd_ixI (n := 2) rr3 rfl rfl ?_
            walk_at "rd"
            have hdl := D0.length
            have hg : g.toNat < vs.length := by omega
            obtain ⟨dd, ed, DA⟩ := D0.get (i := g.toNat) (v := vs[g.toNat]) (List.getElem?_eq_getElem hg)
            refine rd_ixaL (s02 _ _ hp) (atI_at (n := g.toNat) (by omega) (List.getElem?_eq_getElem hg)) ?_
            walk_at "rd"
            obtain ⟨at_, q, ys, ev, hat, _⟩ := DA
            rw [ev]
            refine rd_ixaT (s02 _ _ hat) rfl ?_
            walk_at "rd"
            have et : takesOf ds g = dd.1 := by simp [takesOf, ed]
            have ec : rowFits d.2.1 d.2.2.length ds ("call", [d1, .int g, .tup qs]) = decide ((qs.length : Int) = dd.1) := by
              simp [rowFits, lkp, callFits, et, kCall]
              exact fun _ => hz0
            rw [ec] at k
            exact k

end
end My

end
section
set_option Elab.async false
set_option linter.all false
set_option maxRecDepth 100000
set_option maxHeartbeats 4000000

namespace My
open PySem L2

section
variable {P : Program} {w : World} {K : PySem.W.Frag} {mg : Str → Option Value} {base : Heap}
theorem part_pl {d : D} (h : PartW 1 d) : d.pl = true ∧ d.dep ≤ 1 := by
  cases d with
  | non => simp [PartW] at h
  | bl _ => simp [PartW] at h
  | str _ => simp [PartW] at h
  | int n => simp [D.pl, D.dep]
  | tup ds =>
    obtain ⟨_, hd⟩ := h
    obtain ⟨ns, rfl⟩ := ints_of hd
    simp only [D.pl, D.dep]
    exact ⟨pls_ints _, by rw [deps_ints]; omega⟩
theorem parts_pl : ∀ {ds : List D}, (∀ d ∈ ds, PartW 1 d) → D.pls ds = true ∧ D.deps ds ≤ 1
  | [], _ => ⟨rfl, by simp [D.deps]⟩
  | d :: ds, h => by
    obtain ⟨a, b⟩ := part_pl (h d List.mem_cons_self)
    obtain ⟨a', b'⟩ := parts_pl fun d hd => h d (List.mem_cons_of_mem _ hd)
    simp only [D.pls, D.deps]
    exact ⟨by rw [a, a']; rfl, by omega⟩
theorem rows_pl : ∀ {rs : List (Str × List D)}, (∀ r ∈ rs, ∀ p ∈ r.2, PartW 1 p) → D.pls (rs.map rowD) = true ∧ D.deps (rs.map rowD) ≤ 2
  | [], _ => ⟨rfl, by simp [D.deps]⟩
  | r :: rs, h => by
    obtain ⟨a, b⟩ := parts_pl (h r List.mem_cons_self)
    obtain ⟨a', b'⟩ := rows_pl fun d hd => h d (List.mem_cons_of_mem _ hd)
    simp only [List.map_cons, rowD, D.pls, D.deps, D.pl, D.dep]
    exact ⟨by rw [a, a']; rfl, by omega⟩
theorem rd_eqNil {K : PySem.W.Frag} {H : Hp} {a b : Addr} {xs : List V} {ds : List D} {Q : VK} (h1 : SqL K H a xs) (r : Reps H ds xs) (pd : D.pls ds = true) (hd : D.deps ds ≤ 40) (h2 : H b = some (.lst [])) (q : Q (.bl (decide (ds = []))) H) : rEqL K (.ref a) (.ref b) H Q := by
  refine ⟨a, b, xs, [], ds, [], rfl, rfl, h1, SqL.of h2, r, reps_nil, pd, rfl, hd, ?_⟩
  have e : eqD (.tup ds) (.tup []) = decide (ds = []) := by
    by_cases h : ds = []
    · subst h
      rw [eqD_same]
      simp
    · rw [eqD_false (by intro z; cases z; exact h rfl)]
      simp [h]
  rw [e]
  exact q
noncomputable def badR (ds : List PDef) (d : PDef) (rs : List (Str × List D)) : List (Str × List D) := rs.filter fun r => !rowFits d.2.1 d.2.2.length ds r
theorem DefsAt.by1 {H H' : Hp} {d : PDef} {v : V} (h : DefAt [] H d v) (s : Same H H') : DefAt [] H' d v := h.by (fun a xs _ e => s _ _ e) s.ts
theorem head_iff {d : PDef} : headFits d = true ↔ (1 ≤ d.2.1 ∧ d.2.1 ≤ 8 ∧ 0 ≤ d.1 ∧ d.1 ≤ 4 ∧ d.1 ≤ d.2.1 ∧ 1 ≤ d.2.2.length ∧ d.2.2.length ≤ 30) := by
  simp only [headFits, Bool.and_eq_true, decide_eq_true_eq]
  constructor
  · rintro ⟨⟨a, b⟩, ⟨c, e⟩, f, g⟩
    by_cases h : d.2.1 < 4
    · rw [if_pos h] at e
      refine ⟨a, b, c, by omega, e, by omega, by omega⟩
    · rw [if_neg h] at e
      refine ⟨a, b, c, e, by omega, by omega, by omega⟩
  · rintro ⟨a, b, c, e, e', f, g⟩
    refine ⟨⟨a, b⟩, ⟨c, ?_⟩, by omega, by omega⟩
    split <;> assumption
theorem head_yes {d : PDef} (h : 1 ≤ d.2.1 ∧ d.2.1 ≤ 8 ∧ 0 ≤ d.1 ∧ d.1 ≤ 4 ∧ d.1 ≤ d.2.1 ∧ 1 ≤ d.2.2.length ∧ d.2.2.length ≤ 30) : headFits d = true := head_iff.mpr h
theorem head_no {d : PDef} (h : ¬ (1 ≤ d.2.1 ∧ d.2.1 ≤ 8 ∧ 0 ≤ d.1 ∧ d.1 ≤ 4 ∧ d.1 ≤ d.2.1 ∧ 1 ≤ d.2.2.length ∧ d.2.2.length ≤ 30)) : headFits d = false := by
  rw [Bool.eq_false_iff]; exact fun z => h (head_iff.mp z)
theorem sc__law_formed : FnScope ["program", "one", "takes", "boxes", "rows"] ["program"] (defScope s__law_formed) := ⟨rfl, rfl, rfl, by decide +kernel, rfl, by decide +kernel, by decide +kernel⟩
theorem c__law_formed (B : Blt mg) (T__law_formed : TopFn K mg "_law_formed" s__law_formed ["program"]) (C_law_row_good : Callee P w K mg base "_law_row_good" 2 ["program", "one", "row"] sp_row_good) : Callee P w K mg base "_law_formed" 3 ["program"] sp_formed := by
  refine T__law_formed.ok1 sc__law_formed fun f cdv A outer s H v1 Q E hr h => ?_
  have nd := sc__law_formed.nd
  have hu := hr.units
  have hu1 := hu_of hr
  obtain ⟨p, vs, ds, rfl, hp, D0, PD, k⟩ := h
  have hlv := D0.length
  have hl := PD.len
  refine' go_body [some (.ref p), none, none, none, none] rfl ?hb ?hg
  case hb =>
   refine' pss_cons ?zb ?zc
   case zb =>
    refine' ps_if ?zd ?ze ?zf
    case zd =>
     refine' PW.pt ?zg
     case zg =>
      refine' pw_or ?zh ?zi
      case zh => exact (pt_cmpR op_lt (pe_callB (k_len (K := K) rfl) (by rfl) B.b_len bt_len (pa_consN (pv 0) pa_nil)) pe_int (nomark _))
      case zi =>
       refine' pw_or ?zj ?zk
       case zj => exact (pt_cmpR op_gt (pe_callB (k_len (K := K) rfl) (by rfl) B.b_len bt_len (pa_consN (pv 0) pa_nil)) pe_int (nomark _))
       case zk =>
        refine' pw_or1 ?zl
        case zl => exact (pt_cmpR op_ne (pe_ix (k_ix (K := K) rfl) (pe_ix (k_ix (K := K) rfl) (pv 0) pe_int (fun _ _ => rfl)) pe_int (fun _ _ => rfl)) pe_int (nomark _))
    case ze => exact (pss_one (ps_ret pe_bl))
    case zf => exact pss_nil
   case zc =>
    refine' pss_cons ?zm ?zn
    case zm =>
     refine' ps_for ?zo ?zp ?zq ?zr ?zs
     case zo => exact PassesOwn.never
     case zp => exact rfl
     case zq => exact (k_pi_list (K := K) rfl (pv 0))
     case zr => exact (pg_name (i := 1) nd rfl (Or.inr rfl))
     case zs =>
      refine' pss_cons ?zt ?zu
      case zt =>
       refine' ps_asg ?zv ?zw
       case zv => exact (pv 1)
       case zw =>
        refine' k_pg_tup (K := K) (n := 3) ?zx ?zy ?zz
        case zx => exact rfl
        case zy => exact rfl
        case zz =>
         refine' pgs_cons ?zba ?zbb
         case zba => exact (pg_name (i := 2) nd rfl (Or.inl rfl))
         case zbb => exact (pgs_cons (pg_name (i := 3) nd rfl (Or.inl rfl)) (pgs_cons (pg_name (i := 4) nd rfl (Or.inl rfl)) pgs_nil))
      case zu =>
       refine' pss_cons ?zbc ?zbd
       case zbc =>
        refine' ps_if ?zbe ?zbf ?zbg
        case zbe =>
         refine' PW.pt ?zbh
         case zbh =>
          refine' pw_or ?zbi ?zbj
          case zbi => exact (pt_cmpR op_lt (pv 3) pe_int (nomark _))
          case zbj =>
           refine' pw_or ?zbk ?zbl
           case zbk => exact (pt_cmpR op_gt (pv 3) pe_int (nomark _))
           case zbl =>
            refine' pw_or ?zbm ?zbn
            case zbm => exact (pt_cmpR op_lt (pv 2) pe_int (nomark _))
            case zbn =>
             refine' pw_or ?zbo ?zbp
             case zbo => exact (pt_cmpR op_gt (pv 2) pe_int (nomark _))
             case zbp =>
              refine' pw_or ?zbq ?zbr
              case zbq => exact (pt_cmpR op_gt (pv 2) (pv 3) (nomark _))
              case zbr =>
               refine' pw_or ?zbs ?zbt
               case zbs => exact (pt_cmpR (k_eqL (K := K) rfl hu) (pv 4) (pe_lst pa_nil) (nomark _))
               case zbt => exact (pw_or1 (pt_cmpR op_gt (pe_callB (k_len (K := K) rfl) (by rfl) B.b_len bt_len (pa_consN (pv 4) pa_nil)) pe_int (nomark _)))
        case zbf => exact (pss_one (ps_ret pe_bl))
        case zbg => exact pss_nil
       case zbd =>
        refine' pss_cons ?zbu ?zbv
        case zbu =>
         refine' ps_if ?zbw ?zbx ?zby
         case zbw =>
          refine' PW.pt ?zbz
          case zbz =>
           refine' pw_and ?zca ?zcb
           case zca =>
            refine' pt_cmpR ?zcc ?zcd ?zce ?zcf
            case zcc => exact op_ne
            case zcd => exact (pe_ix (k_ix (K := K) rfl) (pe_ix (k_ix (K := K) rfl) (pv 4) (pe_un un_neg pe_int) (fun _ _ => rfl)) pe_int (fun _ _ => rfl))
            case zce => exact pe_str
            case zcf => exact (nomark _)
           case zcb =>
            refine' pw_and1 ?zcg
            case zcg =>
             refine' pt_cmpR ?zch ?zci ?zcj ?zck
             case zch => exact op_ne
             case zci => exact (pe_ix (k_ix (K := K) rfl) (pe_ix (k_ix (K := K) rfl) (pv 4) (pe_un un_neg pe_int) (fun _ _ => rfl)) pe_int (fun _ _ => rfl))
             case zcj => exact pe_str
             case zck => exact (nomark _)
         case zbx => exact (pss_one (ps_ret pe_bl))
         case zby => exact pss_nil
        case zbv =>
         refine' pss_one ?zcl
         case zcl =>
          refine' ps_if ?zcm ?zcn ?zco
          case zcm =>
           refine' pt_cmpR ?zcp ?zcq ?zcr ?zcs
           case zcp => exact (k_neL (K := K) rfl hu)
           case zcq =>
            refine' pe_comp (LN := ["row"]) (FN := ["program", "one"]) (fr := [0, 1]) ?zct ?zcu ?zcv ?zcw ?zcx ?zcy
            case zct => exact rfl
            case zcu => exact (bk_of (by rfl))
            case zcv => exact (k_pi_list (K := K) rfl (pv 4))
            case zcw =>
             intro cl C fp pins s H
             exact (pg_name (i := 0) (show ((["row"] : List Str) ++ (["program", "one"] : List Str)).Nodup by decide +kernel) rfl (Or.inl rfl))
            case zcx =>
             intro cl C fp pins s H
             refine' pts_one ?zcz
             case zcz => exact (pt_not (pt_val (pe_fn C_law_row_good (hr.mono (by first | decide | omega)) (by rfl) (pa_consN (pv 1) (pa_consN (pv 2) (pa_consN (pv 0) pa_nil))))))
            case zcy =>
             intro cl C fp pins s H
             exact (pv 0)
           case zcr => exact (pe_lst pa_nil)
           case zcs => exact (nomark _)
          case zcn => exact (pss_one (ps_ret pe_bl))
          case zco => exact pss_nil
    case zn => exact (pss_one (ps_ret pe_bl))
  walk_at "rd"
  refine rd_lenL' (SqL.of hp) ?_
  walk_at "rd"
  rw [← hlv]
  refine ite_dd (fun h1 => ?_) (fun h1 => ?_)
  · walk_at "rd"
    have : ¬ (1 : Int) ≤ ds.length := by omega
    simpa [formedB, this] using k H (Same.refl _)
  · walk_at "rd"
    refine rd_lenL' (SqL.of hp) ?_
    walk_at "rd"
    rw [← hlv]
    refine ite_dd (fun h2 => ?_) (fun h2 => ?_)
    · walk_at "rd"
      have : ¬ (ds.length : Int) ≤ 6 := by omega
      simpa [formedB, this] using k H (Same.refl _)
    · walk_at "rd"
      have h0 : 0 < ds.length := by omega
      obtain ⟨d0, ed0, t0, q0, ys0, ev0, hat0, _⟩ := D0.get (i := 0) (v := vs[0]'(by omega)) (List.getElem?_eq_getElem (by omega))
      have ev : vs[0]? = some (.ref t0) := by rw [List.getElem?_eq_getElem (by omega), ev0]
      refine rd_ixaL hp (atI_at (n := 0) rfl ev) ?_
      walk_at "rd"
      refine rd_ixaT hat0 rfl ?_
      have eh : (ds.map (·.1)).headD 0 = d0.1 := by
        cases ds with
        | nil => simp at h0
        | cons d ds => simp at ed0; subst ed0; rfl
      walk_at "rd"
      refine ite_nd (fun h3 => ?_) (fun h3 => ?_)
      · walk_at "rd"
        have k := k H (Same.refl _)
        rw [formedB, eh] at k
        simpa [h3] using k
      · walk_at "rd"
        refine ilK_of (SqL.of hp) ?_
        refine for_list (xs := vs) (fun i σ Hx => (∃ x1 x2 x3 x4, σ = [some (.ref p), x1, x2, x3, x4]) ∧ Same H Hx ∧ ∀ d ∈ ds.take i, headFits d = true ∧ defFits ds d = true) ⟨⟨none, none, none, none, rfl⟩, Same.refl _, fun d hd => by simp at hd⟩ (fun i σ Hx _ ⟨_, s1, _⟩ => SqL.of (s1 _ _ hp)) ?_ ?_
        · rintro i x σ Hx hx ⟨⟨x1, x2, x3, x4, rfl⟩, s1, inv⟩
          obtain ⟨d, ed, DA⟩ := D0.get hx
          have hmem : d ∈ ds := List.mem_of_getElem? ed
          have bad : (headFits d = false ∨ defFits ds d = false) → ∀ H', Same Hx H' → Q (.bl false) H' := fun h H' s' => by
            have e : formedB ds = false := by
              rw [Bool.eq_false_iff]
              intro z
              simp only [formedB, Bool.and_eq_true, List.all_eq_true] at z
              rcases h with h | h
              · rw [z.2.1 d hmem] at h; cases h
              · rw [z.2.2.2 d hmem] at h; cases h
            have k := k H' (s1.trans s')
            rwa [e] at k
          have hr0 := PD.rows d hmem
          obtain ⟨pl, pdp⟩ := rows_pl fun r hr => (PD.part d hmem r hr).2
          have DA0 := DA
          obtain ⟨t, q, ys, rfl, hat, hq, _, ry⟩ := DA
          have hyl := ry.length
          rw [List.length_map] at hyl
          have hat := s1 _ _ hat
          have hq := s1 _ _ hq
          walk_at "rd"
          refine rd_gtup hat rfl ?_
          walk_at "rd"
          refine ite_dd (fun g1 => ?_) (fun g1 => ?_)
          · walk_at "rd"
            exact bad (.inl (head_no fun z => by omega)) Hx (Same.refl _)
          walk_at "rd"
          refine ite_dd (fun g2 => ?_) (fun g2 => ?_)
          · walk_at "rd"
            exact bad (.inl (head_no fun z => by omega)) Hx (Same.refl _)
          walk_at "rd"
          refine ite_dd (fun g3 => ?_) (fun g3 => ?_)
          · walk_at "rd"
            exact bad (.inl (head_no fun z => by omega)) Hx (Same.refl _)
          walk_at "rd"
          refine ite_dd (fun g4 => ?_) (fun g4 => ?_)
          · walk_at "rd"
            exact bad (.inl (head_no fun z => by omega)) Hx (Same.refl _)
          walk_at "rd"
          refine ite_dd (fun g5 => ?_) (fun g5 => ?_)
          · walk_at "rd"
            exact bad (.inl (head_no fun z => by omega)) Hx (Same.refl _)
          walk_at "rd"
          walk_at "mk"; intro p4 hp4
          have s4 := Same.new (o := .lst []) hp4
          have e4 : upd Hx p4 (.lst []) p4 = some (.lst []) := upd_same
          generalize upd Hx p4 (.lst []) = H4 at s4 e4
          have s04 := s1.trans s4
          refine rd_eqNil (SqL.of (s4 _ _ hq)) (ry.mono s04.ts) pl (by omega) e4 ?_
          walk_at "rd"
          refine ite_dd (fun g6 => ?_) (fun g6 => ?_)
          · walk_at "rd"
            exact bad (.inl (head_no fun z => by
              have : d.2.2 = [] := by simpa using g6
              simp [this] at z)) H4 s4
          have hne : d.2.2 ≠ [] := fun z => g6 (by simp [z])
          walk_at "rd"
          refine rd_lenL' (SqL.of (s4 _ _ hq)) ?_
          walk_at "rd"
          refine ite_dd (fun g7 => ?_) (fun g7 => ?_)
          · walk_at "rd"
            exact bad (.inl (head_no fun z => by omega)) H4 s4
          have hh : headFits d = true := head_yes (by
            have : 0 < d.2.2.length := List.length_pos_iff.mpr hne
            refine ⟨by omega, by omega, by omega, by omega, by omega, by omega, by omega⟩)
          obtain ⟨rs, r, er⟩ : ∃ rs r, d.2.2 = rs ++ [r] := ⟨d.2.2.dropLast, d.2.2.getLast hne, (List.dropLast_concat_getLast hne).symm⟩
          have hlast : ∃ v, ys = ys.dropLast ++ [v] ∧ Rep H (rowD r) v := by
            have hyne : ys ≠ [] := fun z => by rw [z] at hyl; simp at hyl; exact hne hyl
            refine ⟨ys.getLast hyne, (List.dropLast_concat_getLast hyne).symm, ?_⟩
            have e1 : ys[rs.length]? = some (ys.getLast hyne) := by
              rw [List.getLast_eq_getElem, List.getElem?_eq_getElem (by rw [er] at hyl; simp at hyl; omega)]
              congr 1
              rw [er] at hyl
              simp at hyl
              congr 1
              omega
            obtain ⟨dd, e2, r2⟩ := ry.get' e1
            rw [er] at e2
            simp at e2
            subst e2
            exact r2
          obtain ⟨v, ey, rv⟩ := hlast
          refine rd_next ?_
          dsimp only
          refine rd_meet (fun σ' H' => σ' = [some (.ref p), some (.ref t), some (.int d.1), some (.int d.2.1), some (.ref q)] ∧ H4 = H' ∧ (r.1 = "jump" ∨ r.1 = "back")) ?_ fun N hN => ?_
          rotate_left
          · walk_at "rd"
            refine rd_ixaL (s4 _ _ hq) (by rw [ey]; exact atI_neg1) ?_
            walk_at "rd"
            refine rd_ixR (n := 0) (rv.mono s04.ts) rfl rfl fun u ru => ?_
            obtain rfl : u = .str r.1 := by rwa [Rep] at ru
            walk_at "rd"
            refine ite_nd (fun nj => ?_) (fun ej => ?_)
            · walk_at "rd"
              refine rd_ixaL (s4 _ _ hq) (by rw [ey]; exact atI_neg1) ?_
              walk_at "rd"
              refine rd_ixR (n := 0) (rv.mono s04.ts) rfl rfl fun u ru => ?_
              obtain rfl : u = .str r.1 := by rwa [Rep] at ru
              walk_at "rd"
              refine ite_nd (fun nb => ?_) (fun eb => ?_)
              · walk_at "rd"
                refine bad (.inr ?_) H4 s4
                simp only [defFits]
                rw [er]
                simp [nj, nb]
              · walk_at "rd"
                exact hN _ _ ⟨rfl, rfl, .inr eb⟩
            · walk_at "rd"
              exact hN _ _ ⟨rfl, rfl, .inl ej⟩
          · rintro σ Hm ⟨rfl, rfl, hjb⟩
            walk_at "rd"
            refine ilK_of (SqL.of (s4 _ _ hq)) ?_
            refine cw_list (xs := ys) (big_le (by omega)) (fun j zs σ Hy => (∃ x1, σ = [x1, some (.ref p), some (.ref t)]) ∧ Same H4 Hy ∧ Reps H ((badR ds d (d.2.2.take j)).map rowD) zs) ⟨⟨none, rfl⟩, Same.refl _, reps_nil⟩ (fun j zs σ Hy _ ⟨_, s5, _⟩ => SqL.of (s5 _ _ (s4 _ _ hq))) ?_ ?_
            · rintro j x zs σ Hy hx' hle hlt ⟨⟨x1, rfl⟩, s5, rz⟩
              obtain ⟨rD, er', rr⟩ := ry.get' hx'
              rw [List.getElem?_map] at er'
              obtain ⟨r', er2, rfl⟩ := Option.map_eq_some_iff.mp er'
              have s05 := s04.trans s5
              have et : badR ds d (d.2.2.take (j + 1)) = badR ds d (d.2.2.take j) ++ badR ds d [r'] := by
                rw [List.take_add_one, er2]; simp [badR]
              obtain ⟨pl', pp'⟩ := PD.part d hmem r' (List.mem_of_getElem? er2)
              walk_at "rd"
              refine use3 ⟨p, vs, ds, d, r', rfl, s05 _ _ hp, D0.mono s05, DefsAt.by1 DA0 s05, rr.mono s05.ts, pp', pl', fun H6 s6 => ?_⟩
              refine ⟨_, rfl, ?_⟩
              cases hf : rowFits d.2.1 d.2.2.length ds r' with
              | false =>
                walk_at "rd"
                refine ⟨hlt, by simpa using hle, ⟨_, rfl⟩, s5.trans s6, ?_⟩
                rw [et, show badR ds d [r'] = [r'] by simp [badR, hf], List.map_append]
                exact rz.append (reps_cons rr reps_nil)
              | true =>
                refine iteNT ⟨by omega, ⟨_, rfl⟩, s5.trans s6, ?_⟩
                rw [et, show badR ds d [r'] = [] by simp [badR, hf], List.append_nil]
                exact rz
            · rintro zs σ Hy hzl ⟨⟨x1, rfl⟩, s5, rz⟩ pa hpa
              rw [← hyl, List.take_length] at rz
              have s6 := Same.new (o := .lst zs) hpa
              have e6 : upd Hy pa (.lst zs) pa = some (.lst zs) := upd_same
              generalize upd Hy pa (.lst zs) = H6 at s6 e6
              walk_at "rd"
              walk_at "mk"; intro p7 hp7
              have s7 := Same.new (o := .lst []) hp7
              have e7 : upd H6 p7 (.lst []) p7 = some (.lst []) := upd_same
              generalize upd H6 p7 (.lst []) = H7 at s7 e7
              have s47 := ((s4.trans s5).trans s6).trans s7
              have plb := rows_pl (rs := badR ds d d.2.2) fun r hr => (PD.part d hmem r (List.mem_filter.mp hr).1).2
              refine rd_neNil (SqL.of (s7 _ _ e6)) (rz.mono (s1.trans s47).ts) plb.1 (by omega) e7 ?_
              walk_at "rd"
              refine ite_nd (fun g8 => ?_) (fun g8 => ?_)
              · walk_at "rd"
                refine bad (.inr ?_) H7 s47
                rw [Bool.eq_false_iff]
                intro z
                simp only [defFits, Bool.and_eq_true, List.all_eq_true] at z
                refine g8 ?_
                rw [List.map_eq_nil_iff, badR, List.filter_eq_nil_iff]
                intro r' hr'
                rw [z.1 r' hr']
                simp
              · walk_at "rd"
                refine ⟨⟨_, _, _, _, rfl⟩, s1.trans s47, fun d' hd' => ?_⟩
                rw [List.take_add_one, ed] at hd'
                rcases List.mem_append.mp hd' with hd' | hd'
                · exact inv d' hd'
                · have : d' = d := by simpa using hd'
                  subst this
                  refine ⟨hh, ?_⟩
                  rw [List.map_eq_nil_iff, badR, List.filter_eq_nil_iff] at g8
                  have ha : d'.2.2.all (rowFits d'.2.1 d'.2.2.length ds) = true := by
                    refine List.all_eq_true.mpr fun r' hr' => ?_
                    have := g8 r' hr'
                    simpa using this
                  simp only [defFits, ha, Bool.true_and]
                  rw [er]
                  simpa using hjb
        · rintro σ Hx ⟨⟨x1, x2, x3, x4, rfl⟩, s1, inv⟩
          walk_at "rd"
          rw [← hlv, List.take_length] at inv
          have e : formedB ds = true := by
            simp only [formedB, Bool.and_eq_true, List.all_eq_true, decide_eq_true_eq]
            exact ⟨⟨by omega, by omega⟩, fun d hd => (inv d hd).1, by rw [eh]; exact h3, fun d hd => (inv d hd).2⟩
          have k := k Hx s1
          rwa [e] at k

end
end My

end
section
set_option Elab.async false
set_option linter.all false
set_option maxRecDepth 100000
set_option maxHeartbeats 4000000

namespace My
open PySem L2

section
variable {P : Program} {w : World} {K : PySem.W.Frag} {mg : Str → Option Value} {base : Heap}
theorem jn_size {c : Nat} : ∀ {ps : List (List Nat)}, ps ≠ [] → (jn c ps).length + 1 = (ps.map (·.length)).sum + ps.length
  | [], h => absurd rfl h
  | [x], _ => by show x.length + 1 = (x.length + 0) + 1; omega
  | x :: y :: r, _ => by
    have := jn_size (c := c) (ps := y :: r) (List.cons_ne_nil _ _)
    show (x ++ c :: jn c (y :: r)).length + 1 = (x.length + ((y :: r).map (·.length)).sum) + ((y :: r).length + 1)
    rw [List.length_append, List.length_cons]
    omega
theorem join_size {c : Nat} {ps : List Str} (h : ps ≠ []) : (Str.join ⟨#[c]⟩ ps).length + 1 = (ps.map (·.length)).sum + ps.length := by
  rw [← cs_len, cs_join, jn_size (fun z => h (List.map_eq_nil_iff.mp z)), List.length_map, List.map_map]
  congr 2
theorem set_sum : ∀ {l : List Nat} {i x y : Nat}, l[i]? = some x → (l.set i y).sum + x = l.sum + y
  | [], _, _, _, h => by cases h
  | a :: l, 0, x, y, h => by
    cases h
    show (y + l.sum) + a = (a + l.sum) + y
    omega
  | a :: l, i + 1, x, y, h => by
    have := set_sum (l := l) (i := i) (x := x) (y := y) h
    show (a + (l.set i y).sum) + x = (a + l.sum) + y
    omega
theorem swap_get {α : Type} {l : List α} {i j : Nat} {x y : α} (hi : l[i]? = some x) (hj : l[j]? = some y) : (l.set i y)[j]? = some y := by
  by_cases e : i = j
  · subst e
    rw [List.getElem?_set_self (List.getElem?_eq_some_iff.mp hi).1]
  · rw [List.getElem?_set_ne e]
    exact hj
theorem swap_sum {l : List Nat} {i j x y : Nat} (hi : l[i]? = some x) (hj : l[j]? = some y) : ((l.set i y).set j x).sum = l.sum := by
  have h1 := set_sum (y := y) hi
  have h2 := set_sum (y := x) (swap_get hi hj)
  omega
theorem jn_asc {c : Nat} (hc : c < 128) : ∀ {ps : List (List Nat)}, (∀ p ∈ ps, ∀ x ∈ p, x < 128) → ∀ x ∈ jn c ps, x < 128
  | [], _, x, hx => by cases hx
  | [p], h, x, hx => h p List.mem_cons_self x hx
  | a :: b :: r, h, x, hx => by
    rcases List.mem_append.mp (show x ∈ a ++ c :: jn c (b :: r) from hx) with z | z
    · exact h a List.mem_cons_self x z
    · rcases List.mem_cons.mp z with rfl | z
      · exact hc
      · exact jn_asc hc (fun p hp => h p (List.mem_cons_of_mem _ hp)) x z
noncomputable def sp_turned : Sp := sp2 fun x y H Q => ∃ t L pk p0 p1 p2, x = .str t ∧ isAsc t ∧ t.length ≤ L ∧ L ≤ 900000 ∧ y = .ref pk ∧ H pk = some (.lst [.int p0, .int p1, .int p2]) ∧ ∀ t' H', isAsc t' → t'.length ≤ L → Same H H' → Q (.str t') H'
theorem sc__law_turned : FnScope ["text", "pick", "lines", "one", "two", "held"] ["text", "pick"] (defScope s__law_turned) := ⟨rfl, rfl, rfl, by decide +kernel, rfl, by decide +kernel, by decide +kernel⟩
theorem c__law_turned (B : Blt mg) (T__law_turned : TopFn K mg "_law_turned" s__law_turned ["text", "pick"]) : Callee P w K mg base "_law_turned" 1 ["text", "pick"] sp_turned := by
  refine T__law_turned.ok2 sc__law_turned fun f cdv A outer s H v1 v2 Q E hr h => ?_
  have nd := sc__law_turned.nd
  obtain ⟨z, L, pk, q0, q1, q2, rfl, az, hz, hL, rfl, hpk, k⟩ := h
  refine' go_body [some (.str z), some (.ref pk), none, none, none, none] rfl ?hb ?hg
  case hb =>
   refine' pss_cons ?zb ?zc
   case zb =>
    refine' ps_setC (i := 2) ?zd ?ze ?zf ?zg
    case zd => exact nd
    case ze => exact rfl
    case zf => exact (Or.inl rfl)
    case zg => exact (k_bm (K := K) rfl PySem.F.plainAttrs_str PySem.F.slot_str_split PySem.F.type_str_split mt_split (pv 0) (pa_consK pe_str pa_nil))
   case zc =>
    refine' pss_cons ?zh ?zi
    case zh =>
     refine' ps_setB (i := 3) ?zj ?zk ?zl ?zm
     case zj => exact nd
     case zk => exact rfl
     case zl => exact (Or.inl rfl)
     case zm =>
      refine' pe_op ?zn ?zo ?zp
      case zn => exact op_mod
      case zo => exact (pe_ix (k_ix (K := K) rfl) (pv 1) pe_int (fun _ _ => rfl))
      case zp => exact (pe_callB (k_len (K := K) rfl) (by rfl) B.b_len bt_len (pa_consN (pv 2) pa_nil))
    case zi =>
     refine' pss_cons ?zq ?zr
     case zq =>
      refine' ps_setB (i := 4) ?zs ?zt ?zu ?zv
      case zs => exact nd
      case zt => exact rfl
      case zu => exact (Or.inl rfl)
      case zv =>
       refine' pe_op ?zw ?zx ?zy
       case zw => exact op_mod
       case zx => exact (pe_ix (k_ix (K := K) rfl) (pv 1) pe_int (fun _ _ => rfl))
       case zy => exact (pe_callB (k_len (K := K) rfl) (by rfl) B.b_len bt_len (pa_consN (pv 2) pa_nil))
     case zr =>
      refine' pss_cons ?zz ?zba
      case zz => exact (ps_setS (i := 5) nd rfl (Or.inl rfl) (pe_ix (k_ix (K := K) rfl) (pv 2) (pv 3) (fun _ _ => rfl)))
      case zba =>
       refine' pss_cons ?zbb ?zbc
       case zbb => exact (ps_asg (pe_ix (k_ix (K := K) rfl) (pv 2) (pv 4) (fun _ _ => rfl)) (pg_sub (pv 2) (pv 3) set_list))
       case zbc =>
        refine' pss_cons ?zbd ?zbe
        case zbd => exact (ps_asg (pv 5) (pg_sub (pv 2) (pv 4) set_list))
        case zbe =>
         refine' pss_one ?zbf
         case zbf => exact (ps_ret (k_bm (K := K) rfl PySem.F.plainAttrs_str PySem.F.slot_str_join PySem.F.type_str_join (k_join (K := K) rfl) pe_str (pa_consN (pv 2) pa_nil)))
  walk_at "rd"
  refine ⟨rfl, ?_⟩
  walk_at "rd"
  refine rd_split (by decide) (big_le (by omega)) fun p1 hp1 => ?_
  rw [show (Str.ofString "\n") = (⟨#[10]⟩ : Str) from feed_eq]
  have hjs := StrLaws.join_split z ⟨#[10]⟩
  have hpart : ∀ p ∈ Txt.split z ⟨#[10]⟩, isAsc p := fun p hp => asc_part hp az
  have hne := split_ne z ⟨#[10]⟩
  generalize Txt.split z ⟨#[10]⟩ = lines at hjs hpart hne
  have hsz := join_size (c := 10) hne
  rw [hjs] at hsz
  have hll : 0 < lines.length := List.length_pos_iff.mpr hne
  have e1 : upd H p1 (.lst (lines.map V.str)) p1 = some (.lst (lines.map V.str)) := upd_same
  have s1 := Same.new (o := .lst (lines.map V.str)) hp1
  have mm : ∀ q : Int, ∃ i : Nat, q % ((lines.map V.str).length : Int) = i ∧ i < lines.length := fun q => by
    rw [List.length_map]
    have h1 := Int.emod_nonneg q (show (lines.length : Int) ≠ 0 by omega)
    have h2 := Int.emod_lt_of_pos q (show 0 < (lines.length : Int) by omega)
    exact ⟨(q % (lines.length : Int)).toNat, by omega, by omega⟩
  obtain ⟨i, ei, hi⟩ := mm q1
  obtain ⟨j, ej, hj⟩ := mm q2
  have gi : lines[i]? = some lines[i] := List.getElem?_eq_getElem hi
  have gj : lines[j]? = some lines[j] := List.getElem?_eq_getElem hj
  generalize lines[i] = x at gi
  generalize lines[j] = y at gj
  have gi' : (lines.map V.str)[i]? = some (V.str x) := by rw [List.getElem?_map, gi]; rfl
  have gj' : (lines.map V.str)[j]? = some (V.str y) := by rw [List.getElem?_map, gj]; rfl
  walk_at "rd"
  refine rd_ixaL (s1 _ _ hpk) (v := .int q1) (atI_at (n := 1) rfl rfl) ?_
  walk_at "rd"
  refine rd_lenL' (SqL.of e1) ?_
  walk_at "rd"
  refine rd_I (show (0 : Int) < _ by rw [List.length_map]; omega) ?_
  rw [ei]
  walk_at "rd"
  refine rd_ixaL (s1 _ _ hpk) (v := .int q2) (atI_at (n := 1 + 1) rfl rfl) ?_
  walk_at "rd"
  refine rd_lenL' (SqL.of e1) ?_
  walk_at "rd"
  refine rd_I (show (0 : Int) < _ by rw [List.length_map]; omega) ?_
  rw [ej]
  walk_at "rd"
  refine rd_ixaL e1 (v := .str x) (atI_at (n := i) rfl gi') ?_
  walk_at "rd"
  refine rd_ixaL e1 (v := .str y) (atI_at (n := j) rfl gj') ?_
  walk_at "rd"
  refine rd_setL (k := i) e1 (ixN_at rfl (by rw [List.length_map]; exact hi)) ?_
  rw [upd_upd, show (lines.map V.str).set i (.str y) = (lines.set i y).map V.str by rw [List.map_set]]
  walk_at "rd"
  refine rd_setL (k := j) upd_same (ixN_at rfl (by rw [List.length_map, List.length_set]; exact hj)) ?_
  rw [upd_upd, show ((lines.set i y).map V.str).set j (.str x) = ((lines.set i y).set j x).map V.str by simp only [List.map_set]]
  walk_at "rd"
  refine ⟨rfl, ?_⟩
  walk_at "rd"
  have hln : ((lines.set i y).set j x).length = lines.length := by rw [List.length_set, List.length_set]
  have hsum : (((lines.set i y).set j x).map (·.length)).sum = (lines.map (·.length)).sum := by
    rw [List.map_set, List.map_set]
    exact swap_sum (by rw [List.getElem?_map, gi]; rfl) (by rw [List.getElem?_map, gj]; rfl)
  have hne2 : (lines.set i y).set j x ≠ [] := fun e => by rw [e] at hln; exact absurd hln (by show (0 : Nat) ≠ _; omega)
  have hsz2 := join_size (c := 10) hne2
  refine rd_join (zs := (lines.set i y).set j x) (SqL.of upd_same) (by decide) (by omega) ?_
  refine k _ _ ?_ (by omega) (Same.new hp1)
  rw [asc_mem, cs_join]
  refine jn_asc (by decide) fun p hp => ?_
  obtain ⟨q, hq, rfl⟩ := List.mem_map.mp hp
  have hm : q ∈ lines := by
    rcases List.mem_or_eq_of_mem_set hq with hq | rfl
    · rcases List.mem_or_eq_of_mem_set hq with hq | rfl
      · exact hq
      · exact List.mem_of_getElem? gj
    · exact List.mem_of_getElem? gi
  exact asc_mem.mp (hpart q hm)

end
end My

end
section
set_option Elab.async false
set_option linter.all false
set_option maxRecDepth 100000
set_option maxHeartbeats 4000000

namespace My
open PySem L2

section
variable {P : Program} {w : World} {K : PySem.W.Frag} {mg : Str → Option Value} {base : Heap}
noncomputable def sp_lread : Sp := sp1 fun x H Q => ∃ z, x = .str z ∧ z.length ≤ 900000 ∧ isAsc z ∧ (∀ ds p q e H1 H', readP z = some ds → Same H H1 → NewPg H1 H' q ds → H' p = some (.tup [.ref q, .ref e]) → H' e = some (.lst []) → Q (.ref p) H') ∧
  ∀ p q H', readP z = none → H' p = some (.tup [.non, .ref q]) → H' q = some (.lst [.bl true, .bl true, .bl false]) → Same H H' → Q (.ref p) H'
theorem sc__law_read : FnScope ["text", "found", "told", "e"] ["text"] (defScope s__law_read) := ⟨rfl, rfl, rfl, by decide +kernel, rfl, by decide +kernel, by decide +kernel⟩
theorem c__law_read {C_NoText C_LaneError C_NotFormed C_Faulty : Addr} (B : Blt mg) (HX : ExH K mg C_NoText C_LaneError C_NotFormed C_Faulty) (T__law_read : TopFn K mg "_law_read" s__law_read ["text"]) (Cread : CalleeX P w K mg base C_NoText "read" 3 ["text"] (sp_read C_NoText)) : Callee P w K mg base "_law_read" 4 ["text"] sp_lread := by
  refine T__law_read.ok1 sc__law_read fun f cdv A outer s H v1 Q E hr h => ?_
  have nd := sc__law_read.nd
  obtain ⟨z, rfl, hz, az, k1, k2⟩ := h
  refine' go_body [some (.str z), none, none, none] rfl ?hb ?hg
  case hb =>
   refine' pss_cons ?zb ?zc
   case zb => exact (ps_set (i := 1) nd rfl (Or.inl rfl) pe_non)
   case zc =>
    refine' pss_cons ?zd ?ze
    case zd => exact (ps_setL (i := 2) nd rfl (Or.inl rfl) (pe_lst pa_nil))
    case ze =>
     refine' pss_cons ?zf ?zg
     case zf =>
      refine' ps_tryC (i := 1) (j := 3) ?zh ?zi ?zj ?zk ?zl ?zm ?zn ?zo ?zp ?zq ?zr ?zs ?zt ?zu ?zv ?zw ?zx
      case zh => exact Cread
      case zi => exact (hr.mono (by first | decide | omega))
      case zj => exact rfl
      case zk => exact rfl
      case zl => exact nd
      case zm => exact rfl
      case zn => exact (Or.inl rfl)
      case zo => exact (Or.inl rfl)
      case zp => exact rfl
      case zq => exact rfl
      case zr => exact rfl
      case zs => exact (by rfl)
      case zt => exact (pa_consN (pv 0) pa_nil)
      case zu => exact (by rfl)
      case zv => exact HX.m_LaneError
      case zw => exact HX.x_LaneError
      case zx => exact (fun a oe hc hd => (pss_one (ps_setL (i := 2) nd rfl (Or.inl rfl) (pe_lst (pa_consC (pe_callB (call_isiX rfl hc HX.k) (by rfl) B.b_isinstance bt_isinstance (pa_consN (pv 3) (pa_consN (pe_bltn (v := .ty "ValueError") (by rfl) B.b_ValueError bt_ValueError rfl) pa_nil))) (pa_consC (pe_callB (call_isiX rfl hc HX.k) (by rfl) B.b_isinstance bt_isinstance (pa_consN (pv 3) (pa_consN (pe_glob (v := .ref C_NoText) (by rfl) HX.m_NoText rfl) pa_nil))) (pa_consO (pe_or (pe_callB (call_isiX rfl hc HX.k) (by rfl) B.b_isinstance bt_isinstance (pa_consN (pv 3) (pa_consN (pe_glob (v := .ref C_NotFormed) (by rfl) HX.m_NotFormed rfl) pa_nil))) (pe_one (pe_callB (call_isiX rfl hc HX.k) (by rfl) B.b_isinstance bt_isinstance (pa_consN (pv 3) (pa_consN (pe_glob (v := .ref C_Faulty) (by rfl) HX.m_Faulty rfl) pa_nil))))) pa_nil)))))))
     case zg => exact (pss_one (ps_ret (pe_tup (pa_consN (pv 1) (pa_consN (pv 2) pa_nil)))))
  walk_at "rd"
  walk_at "mk"; intro q hq
  have s0 := Same.new (o := .lst []) hq
  have e0 : upd H q (.lst []) q = some (.lst []) := upd_same
  generalize upd H q (.lst []) = H0 at s0 e0
  walk_at "rd"
  refine useX1 ⟨z, rfl, hz, az, fun ds hw pq H1 np => ?_, fun hw H1 s1 a ha => ?_⟩
  · walk_at "rd"
    walk_at "mk"; intro p hp
    have s2 := Same.new (o := .tup [V.ref pq, V.ref q]) hp
    refine k1 ds p pq q H0 _ hw s0 ⟨np.1, ?_⟩ upd_same (s2 _ _ (np.same _ _ e0))
    obtain ⟨_, vs, ls, I⟩ := np
    exact ⟨vs, ls, I.mono s2⟩
  · walk_at "rd"
    refine rd_isXT HX.kV ?_
    walk_at "rd"
    refine rd_isX HX.k.kc (fun z => by cases z) ?_
    walk_at "rd"
    refine rd_isX HX.kN (fun _ => HX.nN) ?_
    walk_at "rd"
    refine rd_isX HX.kF (fun _ => HX.nF) ?_
    walk_at "rd"
    walk_at "mk"; intro p2 hp2
    have s2 := Same.new (o := .lst [V.bl true, V.bl true, V.bl false]) hp2
    have e2 : upd H1 p2 (.lst [V.bl true, V.bl true, V.bl false]) p2 = some (.lst [V.bl true, V.bl true, V.bl false]) := upd_same
    generalize upd H1 p2 (.lst [V.bl true, V.bl true, V.bl false]) = H2 at s2 e2
    walk_at "rd"
    walk_at "mk"; intro p hp
    have s3 := Same.new (o := .tup [V.non, V.ref p2]) hp
    exact k2 p p2 _ hw upd_same (s3 _ _ e2) (((s0.trans s1).trans s2).trans s3)

end
end My

end
section
set_option Elab.async false
set_option linter.all false
set_option maxRecDepth 100000
set_option maxHeartbeats 4000000
namespace L2
open PySem PySem.Spec PyProof.Rows PySem.Builtin PySem.Builtin.Str PySem.NumText
/-! ### what is read is shown as it was -/
theorem val_snoc (l : List Nat) (c : Nat) : digitsVal (l ++ [c]) = digitsVal l * 10 + (c - 48) := by
  unfold digitsVal
  rw [List.foldl_append]
  rfl
theorem all_front {l : List Nat} {c : Nat} (h : AllDigits (l ++ [c])) : AllDigits l ∧ 48 ≤ c ∧ c ≤ 57 := ⟨fun x hx => h x (List.mem_append_left _ hx), h c (List.mem_append_right _ List.mem_cons_self)⟩
theorem val_lt : ∀ (k : Nat) (l : List Nat), l.length = k → AllDigits l → digitsVal l < 10 ^ k := by
  intro k
  induction k with
  | zero =>
    intro l hl _
    rw [List.eq_nil_of_length_eq_zero hl]
    decide
  | succ k ih =>
    intro l hl h
    have hne : l ≠ [] := fun e => by rw [e] at hl; cases hl
    obtain ⟨a, c, rfl⟩ : ∃ a c, l = a ++ [c] := ⟨_, _, (List.dropLast_concat_getLast hne).symm⟩
    obtain ⟨ha, hc⟩ := all_front h
    have := ih a (by simpa using hl) ha
    rw [val_snoc, Nat.pow_succ]
    omega
theorem figs_back : ∀ (k : Nat) (l : List Nat), l.length = k → AllDigits l → l ≠ [] → (l.head? ≠ some 48 ∨ l = [48]) → figs (digitsVal l) = l := by
  intro k
  induction k with
  | zero => intro l hl _ hne _; exact absurd (List.eq_nil_of_length_eq_zero hl) hne
  | succ k ih =>
    intro l hl h hne hh
    obtain ⟨a, c, rfl⟩ : ∃ a c, l = a ++ [c] := ⟨_, _, (List.dropLast_concat_getLast hne).symm⟩
    obtain ⟨ha, hc⟩ := all_front h
    rw [val_snoc]
    by_cases e : a = []
    · subst e
      rw [show digitsVal [] * 10 + (c - 48) = c - 48 by show 0 * 10 + _ = _; omega, figs_one _ (by omega)]
      show [48 + (c - 48)] = [c]
      rw [Nat.add_sub_cancel' hc.1]
    · have hd : a.head? ≠ some 48 := by
        rcases hh with hh | hh
        · cases a with
          | nil => exact absurd rfl e
          | cons x r => exact hh
        · have h3 : a.length + [c].length = [48].length := by rw [← List.length_append, hh]
          simp only [List.length_cons, List.length_nil] at h3
          have := List.length_pos_iff.mpr e
          omega
      have q := ih a (by simpa using hl) ha e (.inl hd)
      have pos : 0 < digitsVal a := by
        rcases Nat.eq_zero_or_pos (digitsVal a) with z | z
        · rw [z] at q
          exact absurd (show a.head? = some 48 by rw [← q]; decide) hd
        · exact z
      rw [figs_big (by omega), show (digitsVal a * 10 + (c - 48)) / 10 = digitsVal a by omega, show (digitsVal a * 10 + (c - 48)) % 10 = c - 48 by omega, q, figs_one _ (by omega), Nat.add_sub_cancel' hc.1]
theorem whole_back {z : Str} {n : Int} (h : wholeP 60 z = some n) : numS n = z ∧ Small n := by
  unfold wholeP at h
  split at h
  · next hc =>
    obtain ⟨⟨h1, h60⟩, h2⟩ := hc
    have hd := allFig.mp h2
    have hl := cs_len z
    split at h
    · cases h
    · next hz =>
      unfold figT at h1 h60 hd hz
      split at h1
      · next e =>
        rw [if_pos e] at h60 hd hz
        cases ez : cs z with
        | nil => rw [ez] at e; cases e
        | cons c r =>
          rw [ez] at e h1 h60 hd hl hz
          cases e
          have hr : List.drop 1 (45 :: r) = r := rfl
          rw [hr] at h1 h60 hd hz
          simp only [List.length_cons] at hl
          have hne : r ≠ [] := fun z => by rw [z] at h1; exact absurd h1 (by decide)
          rw [intText_neg ez hd hne (by omega)] at h
          have h := Option.some.inj h
          have hh : r.head? ≠ some 48 := fun q => hz ⟨q, fun w => by cases w⟩
          have fb := figs_back _ r rfl hd hne (.inl hh)
          have pos : 0 < digitsVal r := by
            rcases Nat.eq_zero_or_pos (digitsVal r) with z | z
            · rw [z] at fb
              exact absurd (show r.head? = some 48 by rw [← fb]; decide) hh
            · exact z
          have lt := val_lt _ r rfl hd
          have le : (10 : Nat) ^ r.length ≤ 10 ^ 60 := Nat.pow_le_pow_right (by decide) h60
          refine ⟨cs_inj ?_, ?_⟩
          · rcases num_cases n with ⟨m, e1, e2⟩ | ⟨m, hm, e1, e2⟩
            · omega
            · have : m = digitsVal r := by omega
              rw [e2, this, fb, ez]
          · unfold Small
            have : n.natAbs = digitsVal r := by omega
            rw [this]
            exact Nat.lt_of_lt_of_le lt le
      · next e =>
        rw [if_neg e] at h60 hd hz
        have hne : cs z ≠ [] := fun z => by rw [z] at h1; exact absurd h1 (by decide)
        rw [intText_digits hd hne (by omega)] at h
        have h := Option.some.inj h
        have hh : (cs z).head? ≠ some 48 ∨ cs z = [48] := by
          by_cases q : (cs z).head? = some 48
          · by_cases w : cs z = [48]
            · exact .inr w
            · exact absurd ⟨q, w⟩ hz
          · exact .inl q
        have h : ((digitsVal (cs z) : Nat) : Int) = n := h
        have fb := figs_back _ (cs z) rfl hd hne hh
        have lt := val_lt _ (cs z) rfl hd
        have le : (10 : Nat) ^ (cs z).length ≤ 10 ^ 60 := Nat.pow_le_pow_right (by decide) h60
        refine ⟨cs_inj ?_, ?_⟩
        · rcases num_cases n with ⟨m, e1, e2⟩ | ⟨m, hm, e1, e2⟩
          · have : m = digitsVal (cs z) := by omega
            rw [e2, this, fb]
          · omega
        · unfold Small
          have : n.natAbs = digitsVal (cs z) := by omega
          rw [this]
          exact Nat.lt_of_lt_of_le lt le
  · cases h
theorem nums_back : ∀ {ws : List Str} {ns : List Int}, ws.mapM (wholeP 60) = some ns → ns.map numS = ws ∧ ∀ n ∈ ns, Small n := by
  intro ws ns h
  obtain ⟨hl, hi⟩ := mapM_some h
  have key : ∀ (i : Nat) w, ws[i]? = some w → ∃ n, ns[i]? = some n ∧ numS n = w ∧ Small n := fun i w e => by
    obtain ⟨n, e1, e2⟩ := hi i w e
    exact ⟨n, e1, whole_back e2⟩
  refine ⟨List.ext_getElem? fun i => ?_, fun n hn => ?_⟩
  · rw [List.getElem?_map]
    cases e : ws[i]? with
    | none =>
      rw [List.getElem?_eq_none (by rw [← hl]; exact List.getElem?_eq_none_iff.mp e)]
      rfl
    | some w =>
      obtain ⟨n, e1, e2, _⟩ := key i w e
      rw [e1, ← e2]
      rfl
  · obtain ⟨i, hi'⟩ := List.mem_iff_getElem?.mp hn
    have lt := (List.getElem?_eq_some_iff.mp hi').1
    obtain ⟨n', e1, _, s⟩ := key i _ (List.getElem?_eq_getElem (show i < ws.length by omega))
    rw [hi'] at e1
    cases e1
    exact s
/-- a line that was read -/
theorem line_back {acc acc' : List PDef} {line : Str} (h : lineP acc line = some acc') : (∃ a b, line = headT (a, b, []) ∧ Small a ∧ Small b ∧ acc' = acc ++ [(a, b, [])]) ∨ (acc ≠ [] ∧ ∃ r, line = rowT r.1 (numsOf r) ∧ RowR r ∧ acc' = addRow acc r) := by
  unfold lineP at h
  have jl := StrLaws.join_split line blank
  cases es : Txt.split line blank with
  | nil => exact absurd es (split_ne _ _)
  | cons w ws =>
    rw [es] at h jl
    have h : (match ws.mapM (wholeP 60) with | none => none | some ns => lineW acc w ns) = some acc' := h
    cases em : ws.mapM (wholeP 60) with
    | none => rw [em] at h; cases h
    | some ns =>
      rw [em] at h
      have h : lineW acc w ns = some acc' := h
      obtain ⟨en, sm⟩ := nums_back em
      have el : line = rowT w ns := by
        unfold rowT
        rw [en]
        exact jl.symm
      unfold lineW at h
      split at h
      · next ew =>
        subst ew
        rcases ns with _ | ⟨a, _ | ⟨b, _ | ⟨c, r⟩⟩⟩
        · cases h
        · cases h
        · cases h
          exact .inl ⟨a, b, el, sm a List.mem_cons_self, sm b (List.mem_cons_of_mem _ List.mem_cons_self), rfl⟩
        · cases h
      · split at h
        · cases h
        · next ne =>
          obtain ⟨r, er, e2⟩ := Option.map_eq_some_iff.mp h
          obtain ⟨r1, r2⟩ := rowP_w er
          refine .inr ⟨ne, r, by rw [r1, r2]; exact el, ⟨by rw [r1, r2]; exact er, fun n hn => sm n (by rw [r2] at hn; exact hn)⟩, e2.symm⟩
theorem fold_back : ∀ {lines : List Str} {acc ds : List PDef}, lines.foldlM lineP acc = some ds → (∀ d ∈ acc, DefR d) → (ds.map defL).flatten = (acc.map defL).flatten ++ lines ∧ ∀ d ∈ ds, DefR d
  | [], acc, ds, h, ha => by
    cases h
    exact ⟨(List.append_nil _).symm, ha⟩
  | line :: lines, acc, ds, h, ha => by
    rw [List.foldlM_cons] at h
    cases el : lineP acc line with
    | none => rw [el] at h; cases h
    | some acc' =>
      rw [el] at h
      have h : lines.foldlM lineP acc' = some ds := h
      have key : (acc'.map defL).flatten = (acc.map defL).flatten ++ [line] ∧ ∀ d ∈ acc', DefR d := by
        rcases line_back el with ⟨a, b, e1, sa, sb, rfl⟩ | ⟨ne, r, e1, rr, rfl⟩
        · refine ⟨by rw [List.map_append, List.flatten_append, e1]; rfl, fun d hd => ?_⟩
          rcases List.mem_append.mp hd with hd | hd
          · exact ha d hd
          · rw [List.mem_singleton.mp hd]
            exact ⟨sa, sb, fun r hr => by cases hr⟩
        · obtain ⟨acc0, d, rfl⟩ : ∃ a d, acc = a ++ [d] := ⟨_, _, (List.dropLast_concat_getLast ne).symm⟩
          rw [addRow_snoc]
          have hd := ha d (List.mem_append_right _ List.mem_cons_self)
          refine ⟨?_, fun d' hd' => ?_⟩
          · simp only [List.map_append, List.flatten_append, List.map_cons, List.map_nil, List.flatten_cons, List.flatten_nil, List.append_nil, List.append_assoc, e1]
            congr 1
            show headT d :: _ = headT d :: _
            simp [List.map_append]
          · rcases List.mem_append.mp hd' with hd' | hd'
            · exact ha d' (List.mem_append_left _ hd')
            · rw [List.mem_singleton.mp hd']
              refine ⟨hd.takes, hd.boxes, fun r' hr' => ?_⟩
              rcases List.mem_append.mp hr' with hr' | hr'
              · exact hd.rows r' hr'
              · rw [List.mem_singleton.mp hr']; exact rr
      obtain ⟨k1, k2⟩ := fold_back h key.2
      exact ⟨by rw [k1, key.1, List.append_assoc]; rfl, k2⟩
/-- THE OTHER WORD -/
theorem read_back {z : Str} {ds : List PDef} (h : readP z = some ds) : progT ds = z ∧ (ds.map defL).flatten = Txt.split z feed ∧ ∀ d ∈ ds, DefR d := by
  obtain ⟨k1, k2⟩ := fold_back h (fun d hd => by cases hd)
  have k1 : (ds.map defL).flatten = Txt.split z feed := k1
  exact ⟨by rw [prog_lines, k1]; exact StrLaws.join_split z feed, k1, k2⟩
end L2

end
section
set_option Elab.async false
set_option linter.all false
set_option maxRecDepth 100000
set_option maxHeartbeats 4000000
namespace L2
open PySem PySem.Spec PyProof.Rows
/-- a call of a def that may raise, where it does not -/
theorem pe_fnF {X : Cx} {C : Addr} {x : Str} {k : Nat} {ps : List Str} {sp : Sp} {p pos : Pos} {e : Expr} {es : List Expr} {t : TA} (Cc : CalleeX X.prog X.w X.K X.mg X.base C x k ps sp) (hr : Room k X.A) (hg : Gl X x) (ha : PA X (e :: es) t) (hdb : (x == ("__debug__" : Str)) = false := by decide)
    (he : starEach (e :: es) X.env = (false, eval e X.env) :: starEach es X.env := by rfl) (hpl : (backTo pos (starEach es X.env)).any (·.1) = false := by rfl) : PE X (.Call (.Name x p) (e :: es) [] pos) (tCall sp [] (fun _ _ _ => False) t) := by
  obtain ⟨f', fd, F, hm, hk, hb⟩ := Cc.ex
  refine pe_call F hr hg hm hk hb .nil ?_ ha hdb he hpl
  intro pins σ H s e s' I h
  obtain ⟨_, _, _, _, _, _, _, _, _, _, _, z⟩ := h
  exact z.elim
/-- != of a list of anything and an empty one -/
noncomputable def rNeE (K : PySem.W.Frag) : R2 := fun x y H Q => ∃ a b xs, x = .ref a ∧ y = .ref b ∧ SqL K H a xs ∧ SqL K H b [] ∧ Q (.bl (!decide (xs = []))) H
theorem op_neE {X : Cx} (hu : X.A.units + 64 < cLine) : OpR X (compareOp .NotEq) (rNeE X.K) := by
  rintro pins s σ H x y v u Q I rx ry ⟨a, b, xs, rfl, rfl, ha, hb, q⟩
  by_cases hx : xs = []
  · subst hx
    refine op_neL hu pins s σ H _ _ v u Q I rx ry ⟨a, b, [], [], [], [], rfl, rfl, ha, hb, reps_nil, reps_nil, rfl, rfl, by simp [D.deps], ?_⟩
    rw [eqD_same]
    simpa using q
  · cases rx; cases ry
    obtain ⟨its, vx, ht, _⟩ := I.list ha
    obtain ⟨its', vy, ht', _⟩ := I.list hb
    have l1 := vx.length
    have l2 := vy.length
    have hl : its.length ≠ its'.length := by
      have : 0 < xs.length := List.length_pos_iff.mpr hx
      have l2 : 0 = its'.length := l2
      omega
    refine SeqAt.RcNeAt.lists_lengths ht.isList ht'.isList (by simpa using hl) (by omega) _ _ _ _ (fin_bl I q ?_)
    simp [hx]
theorem k_neE {X : Cx} {K : PySem.W.Frag} (h : X.K = K) (hu : X.A.units + 64 < cLine) : OpR X (compareOp .NotEq) (rNeE K) := h ▸ op_neE hu
theorem rd_neE {K : PySem.W.Frag} {H : Hp} {a b : Addr} {xs : List V} {Q : VK} (h1 : H a = some (.lst xs)) (h2 : H b = some (.lst [])) (q : Q (.bl (!decide (xs = []))) H) : rNeE K (.ref a) (.ref b) H Q := ⟨a, b, xs, rfl, rfl, SqL.of h1, SqL.of h2, q⟩
end L2

end
section
set_option Elab.async false
set_option linter.all false
set_option maxRecDepth 100000
set_option maxHeartbeats 4000000

namespace My
open PySem L2

section
variable {P : Program} {w : World} {K : PySem.W.Frag} {mg : Str → Option Value} {base : Heap}
theorem look_len {wd ls : Str} (h : (wd, ls) ∈ lettersL) : ∃ ks, partsT.lookup wd = some ks ∧ ks.length = ls.cps.size := by
  have hk : ∀ q ∈ lettersL, (partsT.lookup q.1).map List.length = some q.2.cps.size := by decide +kernel
  have := hk _ h
  cases e : partsT.lookup wd with
  | none => rw [show partsT.lookup (wd, ls).1 = none from e] at this; cases this
  | some ks => rw [show partsT.lookup (wd, ls).1 = some ks from e] at this; exact ⟨ks, rfl, Option.some.inj this⟩
theorem rowR_call {a b : Int} {qs : List Int} (ha : Small a) (hb : Small b) (hq : ∀ q ∈ qs, Small q) : RowR (callW, [.int a, .int b, .tup (qs.map D.int)]) ∧ L2.numsOf (callW, [.int a, .int b, .tup (qs.map D.int)]) = a :: b :: qs := by
  have en : L2.numsOf (callW, [.int a, .int b, .tup (qs.map D.int)]) = a :: b :: qs := by
    show [a] ++ ([b] ++ ((qs.map D.int).flatMap intD ++ [])) = _
    rw [nums_ints', List.append_nil]
    rfl
  refine ⟨⟨?_, ?_⟩, en⟩
  · rw [en]
    have : partsT.lookup callW = some (["box", "def", "boxes"] : List Str) := by decide +kernel
    unfold rowP
    rw [this]
    rfl
  · rw [en]
    intro n hn
    rcases List.mem_cons.mp hn with rfl | hn
    · exact ha
    · rcases List.mem_cons.mp hn with rfl | hn
      · exact hb
      · exact hq n hn
theorem rowR_ints {wd ls : Str} {ns : List Int} (h : (wd, ls) ∈ lettersL) (hc : wd ≠ callW) (hl : ns.length = ls.cps.size) (hn : ∀ n ∈ ns, Small n) : RowR (wd, ns.map D.int) ∧ L2.numsOf (wd, ns.map D.int) = ns := by
  have en : L2.numsOf (wd, ns.map D.int) = ns := nums_ints ns
  obtain ⟨ks, e, hk⟩ := look_len h
  refine ⟨⟨?_, by rw [en]; exact hn⟩, en⟩
  rw [en]
  unfold rowP
  rw [e]
  show (if wd = callW then _ else _) = _
  rw [if_neg hc, if_pos (by rw [hl, hk])]
theorem no_q {wd ls : Str} (h : (wd, ls) ∈ lettersL) (hc : wd ≠ callW) : ∀ (i c : Nat), ls.cps[i]? = some c → (⟨#[c]⟩ : Str) ≠ "q" := by
  have hk : ∀ q ∈ lettersL, q.1 ≠ callW → 113 ∉ q.2.cps.toList := by decide +kernel
  intro i c e z
  have h1 := congrArg cs z
  have h2 : [c] = [113] := h1.trans (by decide)
  refine hk _ h hc ?_
  rw [← (List.cons.inj h2).1]
  exact Array.mem_toList_iff.mpr (Array.mem_of_getElem? e)
theorem call_ls {ls : Str} (h : (callW, ls) ∈ lettersL) : ls = "pfq" := by
  have hk : ∀ q ∈ lettersL, q.1 = callW → q.2 = "pfq" := by decide +kernel
  exact hk _ h rfl
theorem small_of {n : Int} (h0 : -1000 ≤ n) (h1 : n ≤ 1000) : Small n := by
  unfold Small
  omega
/-- the rows of the law's programs are rows as they are read -/
theorem rowR_of {sg : List (Int × Int)} {bx many : Int} {r : Str × List D} (h : RowOk sg bx many r) (hb : bx ≤ 8) (S : SgOk sg) : RowR r ∧ (L2.numsOf r).length ≤ 50 := by
  obtain ⟨ls, g⟩ := h
  by_cases hc : r.1 = callW
  · have tb := g.tab
    rw [hc] at tb
    obtain rfl := call_ls tb
    obtain ⟨d0, e0, g0⟩ := g.parts 0 112 rfl
    obtain ⟨d2, e2, g2⟩ := g.parts 2 113 rfl
    rcases g0 with ⟨_, n0, rfl, p0⟩ | ⟨z, _⟩
    · rcases g2 with ⟨z, _⟩ | ⟨_, args, f, tk, ef, et, rfl, ha, hq⟩
      · exact absurd rfl z
      · have l3 : r.2.length = 3 := g.len
        obtain ⟨w, ps⟩ := r
        obtain ⟨x, y, z, rfl⟩ : ∃ x y z, ps = [x, y, z] := by
          match ps, l3 with
          | [x, y, z], _ => exact ⟨x, y, z, rfl⟩
        cases e0
        cases e2
        cases ef
        obtain rfl : w = callW := hc
        have ht := S.all tk (List.mem_of_getElem? et)
        have hf : f < 6 := by
          have := (List.getElem?_eq_some_iff.mp et).1
          have := S.few
          omega
        obtain ⟨k1, k2⟩ := rowR_call (a := n0) (b := f) (qs := args) p0.2.2.2.2 (small_of (by omega) (by omega)) (fun q hq' => small_of (by have := hq q hq'; omega) (by have := hq q hq'; omega))
        refine ⟨k1, ?_⟩
        rw [k2]
        simp only [List.length_cons]
        omega
    · exact absurd z (by decide)
  · have hints : ∀ d ∈ r.2, ∃ n, d = .int n ∧ Small n := by
      intro d hd
      obtain ⟨i, hi⟩ := List.mem_iff_getElem?.mp hd
      have hi' : i < ls.cps.size := by rw [← g.len]; exact (List.getElem?_eq_some_iff.mp hi).1
      obtain ⟨e, ee, ge⟩ := g.parts i ls.cps[i] (Array.getElem?_eq_getElem hi')
      rw [hi] at ee
      cases ee
      rcases ge with ⟨_, n, rfl, p⟩ | ⟨z, _⟩
      · exact ⟨n, rfl, p.2.2.2.2⟩
      · exact absurd z (no_q g.tab hc i _ (Array.getElem?_eq_getElem hi'))
    have : ∀ (l : List D), (∀ d ∈ l, ∃ n, d = .int n ∧ Small n) → ∃ ns : List Int, l = ns.map D.int ∧ ∀ n ∈ ns, Small n := by
      intro l
      induction l with
      | nil => intro _; exact ⟨[], rfl, fun n hn => by cases hn⟩
      | cons d l ih =>
        intro h
        obtain ⟨n, rfl, hn⟩ := h d List.mem_cons_self
        obtain ⟨ns, rfl, hns⟩ := ih fun x hx => h x (List.mem_cons_of_mem _ hx)
        refine ⟨n :: ns, rfl, fun m hm => ?_⟩
        rcases List.mem_cons.mp hm with rfl | hm
        · exact hn
        · exact hns m hm
    obtain ⟨ns, ens, hns⟩ := this r.2 hints
    obtain ⟨w, ps⟩ := r
    obtain rfl : ps = ns.map D.int := ens
    have hl : ns.length = ls.cps.size := by
      have := g.len
      rwa [List.length_map] at this
    obtain ⟨k1, k2⟩ := rowR_ints g.tab hc hl hns
    refine ⟨k1, ?_⟩
    rw [k2, hl]
    have := le3 g.tab
    omega
theorem defT_of {sg : List (Int × Int)} {ds : List PDef} (h : ProgOk sg ds) : ∀ d ∈ ds, DefT d ∧ d.2.2.length ≤ 30 := by
  intro d hd
  have hq := h.sgs.all (d.1, d.2.1) (by rw [← h.heads]; exact List.mem_map.mpr ⟨d, hd, rfl⟩)
  obtain ⟨many, m1, m2, R⟩ := h.rows d hd
  simp only at hq
  have hl := R.len
  exact ⟨⟨⟨small_of (by omega) (by omega), small_of (by omega) (by omega), fun r hr => (rowR_of (R.all r hr) hq.2.2.2.2 h.sgs).1⟩, by omega, fun r hr => (rowR_of (R.all r hr) hq.2.2.2.2 h.sgs).2⟩, by omega⟩

/-- what the law's programs are, here -/
structure PgT (ds : List PDef) : Prop where
  ne : ds ≠ []
  len : ds.length ≤ 9
  df : ∀ d ∈ ds, DefT d ∧ d.2.2.length ≤ 30
theorem PgT.lines {ds : List PDef} (h : PgT ds) : ((ds.map defL).flatten).length ≤ 31 * ds.length := by
  have : ∀ (l : List PDef), (∀ d ∈ l, d.2.2.length ≤ 30) → ((l.map defL).flatten).length ≤ 31 * l.length := by
    intro l
    induction l with
    | nil => intro _; exact Nat.le_refl _
    | cons d l ih =>
      intro h
      have h1 := ih fun x hx => h x (List.mem_cons_of_mem _ hx)
      have h2 := h d List.mem_cons_self
      rw [List.map_cons, List.flatten_cons, List.length_append]
      simp only [defL, List.length_cons, List.length_map] at h1 h2 ⊢
      omega
  exact this ds fun d hd => (h.df d hd).2
theorem PgT.few {ds : List PDef} (h : PgT ds) : ((ds.map defL).flatten).length ≤ 300 := by
  have := h.lines
  have := h.len
  omega
theorem word_asc {w : Str} {ns : List Int} {r : Str × List D} (h : rowP w ns = some r) : ∀ c ∈ cs w, c < 128 := by
  have hk : ∀ q ∈ partsT, ∀ c ∈ cs q.1, c < 128 := by decide +kernel
  unfold rowP at h
  split at h
  · cases h
  · next ks e =>
    have : ∀ (l : List (Str × List Str)), l.lookup w = some ks → (w, ks) ∈ l := by
      intro l
      induction l with
      | nil => intro h; cases h
      | cons q l ih =>
        intro h
        obtain ⟨a, b⟩ := q
        rw [List.lookup_cons] at h
        split at h
        · next e => cases h; rw [beq_iff_eq.mp e]; exact List.mem_cons_self
        · exact List.mem_cons_of_mem _ (ih h)
    exact hk _ (this _ e)
theorem row_asc {wd : Str} {ns : List Int} (h : ∀ c ∈ cs wd, c < 128) : ∀ c ∈ cs (rowT wd ns), c < 128 := by
  unfold rowT
  rw [blank_eq, cs_join]
  refine jn_asc (by decide) fun p hp => ?_
  obtain ⟨q, hq, rfl⟩ := List.mem_map.mp hp
  rcases List.mem_cons.mp hq with rfl | hq
  · exact h
  · obtain ⟨n, _, rfl⟩ := List.mem_map.mp hq
    intro x hx
    have := num_signs n x hx
    omega
theorem prog_asc {ds : List PDef} (h : ∀ d ∈ ds, DefR d) : isAsc (progT ds) := by
  rw [asc_mem, prog_lines, feed_eq, cs_join]
  refine jn_asc (by decide) fun p hp => ?_
  obtain ⟨q, hq, rfl⟩ := List.mem_map.mp hp
  obtain ⟨l, hl, hq⟩ := List.mem_flatten.mp hq
  obtain ⟨d, hd, rfl⟩ := List.mem_map.mp hl
  rcases List.mem_cons.mp hq with rfl | hq
  · exact row_asc (by decide)
  · obtain ⟨r, hr, rfl⟩ := List.mem_map.mp hq
    exact row_asc (word_asc ((h d hd).rows r hr).row)
theorem row_PD {r : Str × List D} (h : RowR r) (hn : (L2.numsOf r).length ≤ 50) : r.2.length ≤ 100 ∧ ∀ p ∈ r.2, PartD 1 p := by
  constructor
  · rcases h.shape with ⟨_, a, b, qs, e, _⟩ | ⟨_, ns, e, en⟩
    · rw [e]; simp
    · rw [e, List.length_map]; rw [en] at hn; omega
  · intro p hp
    rcases part_shape h p hp with ⟨n, rfl, _⟩ | ⟨qs, rfl, _, hl⟩
    · simp [PartD]
    · exact ⟨by rw [List.length_map]; omega, fun d hd => by obtain ⟨n, _, rfl⟩ := List.mem_map.mp hd; exact ⟨n, rfl⟩⟩
theorem PgT.D {ds : List PDef} (h : PgT ds) : PgD ds ∧ ∀ d ∈ ds, ∀ r ∈ d.2.2, r.2.length < 1000 := by
  have hr : ∀ d ∈ ds, ∀ r ∈ d.2.2, r.2.length ≤ 100 ∧ ∀ p ∈ r.2, PartD 1 p := fun d hd r hr => row_PD ((h.df d hd).1.r.rows r hr) ((h.df d hd).1.m r hr)
  refine ⟨⟨by have := h.len; omega, fun d hd => by have := (h.df d hd).2; omega, fun d hd r hr' => ⟨by have := (hr d hd r hr').1; omega, (hr d hd r hr').2⟩⟩, fun d hd r hr' => by have := (hr d hd r hr').1; omega⟩
theorem _root_.L2.DefsAt.free {av : List Addr} {H : Hp} : ∀ {ds : List PDef} {vs : List V}, DefsAt av H ds vs → DefsAt [] H ds vs
  | [], _, h => h
  | _ :: _, _, ⟨v, r, e, ⟨t, q, ys, e1, h1, h2, _, h3⟩, hr⟩ => ⟨v, r, e, ⟨t, q, ys, e1, h1, h2, List.not_mem_nil, h3⟩, L2.DefsAt.free hr⟩
theorem read_W {z : Str} {ds : List PDef} (h : readP z = some ds) (hz : z.length ≤ 900000) : PgW ds := by
  obtain ⟨_, e2, hR⟩ := read_back h
  have hs := split_len z feed
  rw [← e2] at hs
  have hd : ∀ d ∈ ds, (defL d).length ≤ ((ds.map defL).flatten).length := fun d hd =>
    (List.sublist_flatten_of_mem (List.mem_map.mpr ⟨d, hd, rfl⟩)).length_le
  have hn : ∀ d ∈ ds, ∀ r ∈ d.2.2, (L2.numsOf r).length ≤ 900010 := fun d hd r hr => by
    have hm : rowT r.1 (L2.numsOf r) ∈ (ds.map defL).flatten := List.mem_flatten.mpr ⟨defL d, List.mem_map.mpr ⟨d, hd, rfl⟩, List.mem_cons_of_mem _ (List.mem_map.mpr ⟨r, hr, rfl⟩)⟩
    rw [e2, feed_eq] at hm
    have h1 := (split_part hm).2
    have h2 := split_len (rowT r.1 (L2.numsOf r)) blank
    rw [row_split (word_free ((hR d hd).rows r hr).row).1.1, List.length_cons, List.length_map] at h2
    omega
  refine ⟨?_, fun d hd' => ?_, fun d hd' r hr => ⟨?_, fun p hp => ?_⟩⟩
  · have : ∀ (l : List PDef), l.length ≤ ((l.map defL).flatten).length := by
      intro l
      induction l with
      | nil => exact Nat.le_refl _
      | cons d l ih =>
        rw [List.map_cons, List.flatten_cons, List.length_append]
        simp only [List.length_cons, defL]
        omega
    have := this ds
    omega
  · have := hd d hd'
    simp only [defL, List.length_cons, List.length_map] at this
    omega
  · have := hn d hd' r hr
    rcases ((hR d hd').rows r hr).shape with ⟨_, a, b, qs, e, _⟩ | ⟨_, ns, e, en⟩
    · rw [e]
      show 3 ≤ _
      omega
    · rw [e, List.length_map]
      rw [en] at this
      omega
  · have := hn d hd' r hr
    rcases part_shape ((hR d hd').rows r hr) p hp with ⟨n, rfl, _⟩ | ⟨qs, rfl, _, hl⟩
    · simp [PartW]
    · exact ⟨by rw [List.length_map]; omega, fun d hd => by obtain ⟨n, _, rfl⟩ := List.mem_map.mp hd; exact ⟨n, rfl⟩⟩
theorem formed_T {ds : List PDef} (h : formedB ds = true) (hR : ∀ d ∈ ds, DefR d) : PgT ds := by
  simp only [formedB, Bool.and_eq_true, List.all_eq_true, decide_eq_true_eq] at h
  obtain ⟨⟨h1, h6⟩, hh, _, hf⟩ := h
  have hd : ∀ d ∈ ds, d.1 ≤ 4 ∧ d.2.2.length ≤ 30 := fun d hd => by
    have := head_iff.mp (hh d hd)
    omega
  have tk : ∀ g, takesOf ds g ≤ 4 := fun g => by
    unfold takesOf
    cases e : ds[g.toNat]? with
    | none => exact (by decide : (0 : Int) ≤ 4)
    | some d => exact (hd d (List.mem_of_getElem? e)).1
  refine ⟨fun e => by rw [e] at h1; exact absurd h1 (by decide), by omega, fun d hd' => ⟨⟨hR d hd', by have := (hd d hd').2; omega, fun r hr => ?_⟩, (hd d hd').2⟩⟩
  have fr := hf d hd'
  simp only [defFits, Bool.and_eq_true, List.all_eq_true] at fr
  have fr := fr.1 r hr
  unfold rowFits at fr
  split at fr
  · cases fr
  · next ks lk =>
    simp only [Bool.and_eq_true, Bool.or_eq_true, decide_eq_true_eq, Bool.not_eq_true', decide_eq_false_iff_not] at fr
    have hk := parts_len lk
    rcases ((hR d hd').rows r hr).shape with ⟨ec, a, b, qs, e, en⟩ | ⟨_, ns, e, en⟩
    · rw [en]
      rcases fr.2 with z | z
      · exact absurd ec z
      · unfold callFits at z
        rw [e] at z
        have z := decide_eq_true_eq.mp z
        rw [List.length_map] at z
        have := tk b
        simp only [List.length_cons]
        omega
    · rw [en]
      have := fr.1.1
      rw [e, List.length_map] at this
      omega
theorem PgT.text6 {ds : List PDef} (h : PgT ds) (h6 : ds.length ≤ 6) : (progT ds).length ≤ 600000 := by
  rw [prog_lines]
  have h1 := join_len (c := 3200) (ls := (ds.map defL).flatten) (fun z hz => by
      obtain ⟨m, hm, hz⟩ := List.mem_flatten.mp hz
      obtain ⟨d, hd, rfl⟩ := List.mem_map.mp hm
      exact defL_len (h.df d hd).1 z hz)
  have := h.lines
  omega

end
end My

end
section
set_option Elab.async false
set_option linter.all false
set_option maxRecDepth 100000
set_option maxHeartbeats 4000000

namespace My
open PySem L2

section
variable {P : Program} {w : World} {K : PySem.W.Frag} {mg : Str → Option Value} {base : Heap}
/-- a pick, as the law draws it -/
noncomputable def PkV (H : Hp) (b pp : Addr) (y : V) : Prop := ∃ pk p0 p1 p2, y = .ref pk ∧ pk ≠ b ∧ pk ≠ pp ∧ H pk = some (.lst [.int p0, .int p1, .int p2])
theorem PkV.bs {H H' : Hp} {b pp : Addr} {y : V} (h : PkV H b pp y) (s : BSame b H H') : PkV H' b pp y := by
  obtain ⟨pk, p0, p1, p2, e, n1, n2, e'⟩ := h
  exact ⟨pk, p0, p1, p2, e, n1, n2, s _ _ n1 e'⟩
theorem sc_law : FnScope ["script", "bag", "picks", "k", "text", "pick", "found", "told", "held", "again"] ["script"] (defScope s_law) := ⟨rfl, rfl, rfl, by decide +kernel, rfl, by decide +kernel, by decide +kernel⟩
theorem law_fn {f : Addr} {fd : FuncData} {C_NoText C_LaneError C_NotFormed C_Faulty : Addr} (B : Blt mg) (G : Glb K w mg) (HX : ExH K mg C_NoText C_LaneError C_NotFormed C_Faulty) (T_shown : TopFn K mg "shown" s_shown ["program"]) (T_shown_def : TopFn K mg "shown_def" s_shown_def ["one"]) (T_shown_row : TopFn K mg "shown_row" s_shown_row ["word", "numbers"]) (T_numbers_of : TopFn K mg "numbers_of" s_numbers_of ["row"]) (T_read : TopFn K mg "read" s_read ["text"]) (T_read_head : TopFn K mg "read_head" s_read_head ["numbers"]) (T_read_row : TopFn K mg "read_row" s_read_row ["word", "numbers"]) (T_read_call : TopFn K mg "read_call" s_read_call ["numbers"]) (T_read_whole : TopFn K mg "read_whole" s_read_whole ["text", "most"])
    (T__law_bag : TopFn K mg "_law_bag" s__law_bag ["script"]) (T__law_draw : TopFn K mg "_law_draw" s__law_draw ["bag", "many"]) (T__law_number : TopFn K mg "_law_number" s__law_number ["bag"]) (T__law_letters : TopFn K mg "_law_letters" s__law_letters []) (T__law_part : TopFn K mg "_law_part" s__law_part ["bag", "letter", "boxes", "many", "signs"]) (T__law_row : TopFn K mg "_law_row" s__law_row ["bag", "word", "boxes", "many", "signs"]) (T__law_rows : TopFn K mg "_law_rows" s__law_rows ["bag", "boxes", "many", "signs"])
    (T__law_signs : TopFn K mg "_law_signs" s__law_signs ["bag", "many"]) (T__law_program : TopFn K mg "_law_program" s__law_program ["bag"]) (T__law_written : TopFn K mg "_law_written" s__law_written ["program"]) (T__law_any_sign : TopFn K mg "_law_any_sign" s__law_any_sign ["bag"]) (T__law_run : TopFn K mg "_law_run" s__law_run ["bag"]) (T__law_bent_text : TopFn K mg "_law_bent_text" s__law_bent_text ["text", "pick", "bag"])
    (T__law_part_good : TopFn K mg "_law_part_good" s__law_part_good ["program", "one", "letter", "part"]) (T__law_row_good : TopFn K mg "_law_row_good" s__law_row_good ["program", "one", "row"]) (T__law_formed : TopFn K mg "_law_formed" s__law_formed ["program"]) (T__law_read : TopFn K mg "_law_read" s__law_read ["text"])
    (T__law_copy : TopFn K mg "_law_copy" s__law_copy ["program"]) (T__law_alike : TopFn K mg "_law_alike" s__law_alike ["found", "due"]) (T__law_turned : TopFn K mg "_law_turned" s__law_turned ["text", "pick"]) (T_law : Fun K "law" "law" s_law f fd) : FnOk P w K mg base CX0 14 f fd ["script"] (spLaw K) := by
  have Cshown_row := c_shown_row (P := P) (w := w) (base := base) B T_shown_row
  have Cnumbers_of := c_numbers_of (P := P) (w := w) (base := base) B T_numbers_of
  have Cshown_def := c_shown_def (P := P) (w := w) (base := base) B T_shown_def Cshown_row Cnumbers_of
  have Cshown := c_shown (P := P) (w := w) (base := base) B T_shown Cshown_def
  have Cread_whole := c_read_whole (P := P) (w := w) (base := base) B G HX T_read_whole
  have Cread_head := c_read_head (P := P) (w := w) (base := base) B HX T_read_head
  have Cread_call := c_read_call (P := P) (w := w) (base := base) B HX T_read_call
  have Cread_row := c_read_row (P := P) (w := w) (base := base) B HX G T_read_row Cread_call
  have Cread := c_read (P := P) (w := w) (base := base) B G HX T_read Cread_whole Cread_head Cread_row
  have C_law_bag := c__law_bag (P := P) (w := w) (base := base) B T__law_bag
  have C_law_draw := c__law_draw (P := P) (w := w) (base := base) B T__law_draw
  have C_law_number := c__law_number (P := P) (w := w) (base := base) T__law_number C_law_draw
  have C_law_letters := c__law_letters (P := P) (w := w) (base := base) T__law_letters
  have C_law_part := c__law_part (P := P) (w := w) (base := base) B T__law_part C_law_draw C_law_number
  have C_law_row := c__law_row (P := P) (w := w) (base := base) B T__law_row C_law_draw C_law_letters C_law_part
  have C_law_rows := c__law_rows (P := P) (w := w) (base := base) B T__law_rows C_law_draw C_law_letters C_law_row
  have C_law_signs := c__law_signs (P := P) (w := w) (base := base) B T__law_signs C_law_draw
  have C_law_program := c__law_program (P := P) (w := w) (base := base) B T__law_program C_law_draw C_law_signs C_law_rows
  have C_law_written := c__law_written (P := P) (w := w) (base := base) B T__law_written
  have C_law_any_sign := c__law_any_sign (P := P) (w := w) (base := base) B T__law_any_sign C_law_draw
  have C_law_run := c__law_run (P := P) (w := w) (base := base) B T__law_run C_law_draw C_law_any_sign
  have C_law_bent_text := c__law_bent_text (P := P) (w := w) (base := base) B T__law_bent_text C_law_any_sign C_law_run
  have C_law_turned := c__law_turned (P := P) (w := w) (base := base) B T__law_turned
  have C_law_part_good := c__law_part_good (P := P) (w := w) (base := base) B T__law_part_good
  have C_law_row_good := c__law_row_good (P := P) (w := w) (base := base) B T__law_row_good C_law_letters C_law_part_good
  have C_law_formed := c__law_formed (P := P) (w := w) (base := base) B T__law_formed C_law_row_good
  have C_law_read := c__law_read (P := P) (w := w) (base := base) B HX T__law_read Cread
  have C_law_copy := c__law_copy (P := P) (w := w) (base := base) B T__law_copy
  have C_law_alike := al_step (P := P) (w := w) (base := base) B T__law_alike (al_step B T__law_alike (al_step B T__law_alike (al_step B T__law_alike (al_step B T__law_alike (al_step B T__law_alike (al_0 T__law_alike))))))
  refine T_law.law (k := 13) sc_law fun cdv A outer s H a ns Q E hr hS hlen k => ?_
  have nd := sc_law.nd
  have hu := hr.units
  refine' go_body [some (.ref a), none, none, none, none, none, none, none, none, none] rfl ?hb ?hg
  case hb =>
   refine' pss_cons ?zb ?zc
   case zb => exact (ps_setC (i := 1) nd rfl (Or.inl rfl) (pe_fn C_law_bag (hr.mono (by first | decide | omega)) (by rfl) (pa_consN (pv 0) pa_nil)))
   case zc =>
    refine' pss_cons ?zd ?ze
    case zd => exact (ps_setL (i := 2) nd rfl (Or.inl rfl) (pe_lst pa_nil))
    case ze =>
     refine' pss_cons ?zf ?zg
     case zf =>
      refine' ps_for ?zh ?zi ?zj ?zk ?zl
      case zh => exact PassesOwn.never
      case zi => exact rfl
      case zj =>
       refine' pi_range1 ?zm ?zn ?zo
       case zm => exact rfl
       case zn => exact B.b_range
       case zo => exact (pa_consC (pe_fn C_law_draw (hr.mono (by first | decide | omega)) (by rfl) (pa_consN (pv 1) (pa_consK pe_int pa_nil))) pa_nil)
      case zk => exact (pg_name (i := 3) nd rfl (Or.inl rfl))
      case zl =>
       refine' pss_one ?zp
       case zp =>
        refine' ps_expr ?zq
        case zq =>
         refine' k_bm (K := K) ?zr ?zs ?zt ?zu ?zv ?zw ?zx
         case zr => exact rfl
         case zs => exact PySem.F.plainAttrs_list
         case zt => exact PySem.F.slot_list_append
         case zu => exact PySem.F.type_list_append
         case zv => exact mt_append
         case zw => exact (pv 2)
         case zx =>
          refine' pa_consL ?zy ?zz
          case zy =>
           refine' pe_lst ?zba
           case zba =>
            refine' pa_consC ?zbb ?zbc
            case zbb => exact (pe_fn C_law_draw (hr.mono (by first | decide | omega)) (by rfl) (pa_consN (pv 1) (pa_consK pe_int pa_nil)))
            case zbc =>
             refine' pa_consC ?zbd ?zbe
             case zbd => exact (pe_fn C_law_draw (hr.mono (by first | decide | omega)) (by rfl) (pa_consN (pv 1) (pa_consB (pe_op op_pow pe_int pe_int) pa_nil)))
             case zbe => exact (pa_consC (pe_fn C_law_draw (hr.mono (by first | decide | omega)) (by rfl) (pa_consN (pv 1) (pa_consK pe_int pa_nil))) pa_nil)
          case zz => exact pa_nil
     case zg =>
      refine' pss_cons ?zbf ?zbg
      case zbf =>
       refine' ps_setC (i := 4) ?zbh ?zbi ?zbj ?zbk
       case zbh => exact nd
       case zbi => exact rfl
       case zbj => exact (Or.inl rfl)
       case zbk =>
        refine' pe_fn ?zbl ?zbm ?zbn ?zbo
        case zbl => exact C_law_written
        case zbm => exact (hr.mono (by first | decide | omega))
        case zbn => exact (by rfl)
        case zbo => exact (pa_consC (pe_fn C_law_program (hr.mono (by first | decide | omega)) (by rfl) (pa_consN (pv 1) pa_nil)) pa_nil)
      case zbg =>
       refine' pss_cons ?zbp ?zbq
       case zbp =>
        refine' ps_for ?zbr ?zbs ?zbt ?zbu ?zbv
        case zbr => exact PassesOwn.never
        case zbs => exact rfl
        case zbt => exact (k_pi_list (K := K) rfl (pv 2))
        case zbu => exact (pg_name (i := 5) nd rfl (Or.inl rfl))
        case zbv =>
         refine' pss_one ?zbw
         case zbw =>
          refine' ps_if ?zbx ?zby ?zbz
          case zbx => exact (pt_cmpR op_lt (pe_ix (k_ix (K := K) rfl) (pv 5) pe_int (fun _ _ => rfl)) pe_int (nomark _))
          case zby =>
           refine' pss_one ?zca
           case zca =>
            refine' ps_setC (i := 4) ?zcb ?zcc ?zcd ?zce
            case zcb => exact nd
            case zcc => exact rfl
            case zcd => exact (Or.inl rfl)
            case zce => exact (pe_fn C_law_bent_text (hr.mono (by first | decide | omega)) (by rfl) (pa_consN (pv 4) (pa_consN (pv 5) (pa_consN (pv 1) pa_nil))))
          case zbz =>
           refine' pss_one ?zcf
           case zcf => exact (ps_setC (i := 4) nd rfl (Or.inl rfl) (pe_fn C_law_turned (hr.mono (by first | decide | omega)) (by rfl) (pa_consN (pv 4) (pa_consN (pv 5) pa_nil))))
       case zbq =>
        refine' pss_cons ?zcg ?zch
        case zcg =>
         refine' ps_asg ?zci ?zcj
         case zci => exact (pe_fn C_law_read (hr.mono (by first | decide | omega)) (by rfl) (pa_consN (pv 4) pa_nil))
         case zcj => exact (k_pg_tup (K := K) (n := 2) rfl rfl (pgs_cons (pg_name (i := 6) nd rfl (Or.inl rfl)) (pgs_cons (pg_name (i := 7) nd rfl (Or.inl rfl)) pgs_nil)))
        case zch =>
         refine' pss_cons ?zck ?zcl
         case zck =>
          refine' ps_if ?zcm ?zcn ?zco
          case zcm => exact (pt_cmpR (k_neE (K := K) rfl hu) (pv 7) (pe_lst pa_nil) (nomark _))
          case zcn =>
           refine' pss_one ?zcp
           case zcp =>
            refine' ps_ret ?zcq
            case zcq =>
             refine' pe_and ?zcr ?zcs
             case zcr => exact (pe_cmpR op_isN' (pv 6) pe_non (nomark _))
             case zcs =>
              refine' pe_and ?zct ?zcu
              case zct => exact (pe_cmpR (op_eqA hu) (pv 7) (pe_lst (pa_consK pe_bl (pa_consK pe_bl (pa_consK pe_bl pa_nil)))) (nomark _))
              case zcu => exact (pe_one (pe_cmpR op_gt (pe_callB (k_len (K := K) rfl) (by rfl) B.b_len bt_len (pa_consN (pv 2) pa_nil)) pe_int (nomark _)))
          case zco => exact pss_nil
         case zcl =>
          refine' pss_cons ?zcv ?zcw
          case zcv =>
           refine' ps_if ?zcx ?zcy ?zcz
           case zcx => exact (pt_not (pt_val (pe_fn C_law_formed (hr.mono (by first | decide | omega)) (by rfl) (pa_consN (pv 6) pa_nil))))
           case zcy => exact (pss_one (ps_ret pe_bl))
           case zcz => exact pss_nil
          case zcw =>
           refine' pss_cons ?zda ?zdb
           case zda => exact (ps_setC (i := 8) nd rfl (Or.inl rfl) (pe_fn C_law_copy (hr.mono (by first | decide | omega)) (by rfl) (pa_consN (pv 6) pa_nil)))
           case zdb =>
            refine' pss_cons ?zdc ?zdd
            case zdc => exact (ps_setC (i := 9) nd rfl (Or.inl rfl) (pe_fn Cshown (hr.mono (by first | decide | omega)) (by rfl) (pa_consN (pv 6) pa_nil)))
            case zdd =>
             refine' pss_cons ?zde ?zdf
             case zde =>
              refine' ps_if ?zdg ?zdh ?zdi
              case zdg =>
               refine' PW.pt ?zdj
               case zdj =>
                refine' pw_or ?zdk ?zdl
                case zdk =>
                 refine' pt_not ?zdm
                 case zdm =>
                  refine' pt_val ?zdn
                  case zdn => exact (pe_callB call_isi (by rfl) B.b_isinstance bt_isinstance (pa_consN (pv 9) (pa_consN (pe_bltn (v := .ty "str") (by rfl) B.b_str bt_str rfl) pa_nil)))
                case zdl =>
                 refine' pw_or ?zdo ?zdp
                 case zdo => exact (pt_cmpR op_ne (pv 9) (pv 4) (nomark _))
                 case zdp => exact (pw_or1 (pt_not (pt_val (pe_fn C_law_alike (hr.mono (by first | decide | omega)) (by rfl) (pa_consN (pv 6) (pa_consN (pv 8) pa_nil))))))
              case zdh => exact (pss_one (ps_ret pe_bl))
              case zdi => exact pss_nil
             case zdf =>
              refine' pss_one ?zdq
              case zdq =>
               refine' ps_ret ?zdr
               case zdr =>
                refine' pe_fn ?zds ?zdt ?zdu ?zdv
                case zds => exact C_law_alike
                case zdt => exact (hr.mono (by first | decide | omega))
                case zdu => exact (by rfl)
                case zdv => exact (pa_consC (pe_fnF Cread (hr.mono (by first | decide | omega)) (by rfl) (pa_consN (pv 9) pa_nil)) (pa_consN (pv 8) pa_nil))
  walk_at "rd"
  refine use1 ⟨a, ns, rfl, hS, hlen, fun b l H1 _ _ B1 => ?_⟩
  walk_at "rd"
  walk_at "mk"; intro pp hpp
  have npp := B1.ne hpp
  have s2 := Same.new (o := .lst []) hpp
  have e2 : upd H1 pp (.lst []) pp = some (.lst []) := upd_same
  have B2 := B1.mono s2
  generalize upd H1 pp (.lst []) = H2 at s2 e2 B2
  walk_at "rd"
  refine use2 ⟨b, l, 4, rfl, rfl, ⟨by decide, by decide⟩, B2, fun r H3 r0 r1 B3 b3 => ?_⟩
  have e3 := b3 _ _ (Ne.symm npp.1) e2
  walk_at "rd"
  refine irK_of (by omega) (by omega) ?_
  refine for_range (n := r.toNat) (fun i σ Hx => ∃ x3 ys, σ = [some (.ref a), some (.ref b), some (.ref pp), x3, none, none, none, none, none, none] ∧ Hx pp = some (.lst ys) ∧ ys.length = i ∧ (∀ y ∈ ys, PkV Hx b pp y) ∧ BagAt Hx b l) ⟨none, [], rfl, e3, rfl, fun y hy => (by cases hy), B3⟩ ?_ ?_
  · rintro i σ Hx hi ⟨x3, ys, rfl, ex, hyl, hpk, Bx⟩
    walk_at "rd"
    refine ⟨.inl ⟨rfl, ys, SqL.of ex⟩, ?_⟩
    walk_at "rd"
    refine use2 ⟨b, l, 7, rfl, rfl, ⟨by decide, by decide⟩, Bx, fun p0 H4 _ _ B4 b4 => ?_⟩
    walk_at "rd"
    refine rd_I (⟨by decide, by decide, by decide⟩ : CPow 10 6) ?_
    walk_at "rd"
    refine use2 ⟨b, l, _, rfl, rfl, ⟨by decide +kernel, by decide +kernel⟩, B4, fun p1 H5 _ _ B5 b5 => ?_⟩
    walk_at "rd"
    refine use2 ⟨b, l, 131, rfl, rfl, ⟨by decide, by decide⟩, B5, fun p2 H6 _ _ B6 b6 => ?_⟩
    have b46 := (b4.trans b5).trans b6
    have e6 := b46 _ _ (Ne.symm npp.1) ex
    walk_at "rd"
    refine ⟨show 3 ≤ PySem.sizeLine by rw [PySem.sizeLine_eq]; decide, fun pk hpk6 => ?_⟩
    have npk : pk ≠ b := fun z => (B6.ne hpk6).1 z.symm
    have npq : pk ≠ pp := fun z => by rw [z, e6] at hpk6; cases hpk6
    have s7 := Same.new (o := .lst [V.int p0, V.int p1, V.int p2]) hpk6
    have e7 : upd H6 pk (.lst [V.int p0, V.int p1, V.int p2]) pk = some (.lst [V.int p0, V.int p1, V.int p2]) := upd_same
    have B7 := B6.mono s7
    generalize upd H6 pk (.lst [V.int p0, V.int p1, V.int p2]) = H7 at s7 e7 B7
    walk_at "rd"
    refine rd_append (s7 _ _ e6) (Nat.lt_of_le_of_lt (show ys.length ≤ 1000000 by omega) (by rw [PySem.sizeLine_eq]; decide)) ?_
    refine ⟨_, _, rfl, upd_same, by simp [hyl], fun y hy => ?_, B7.wr npp.1 npp.2⟩
    rcases List.mem_append.mp hy with hy | hy
    · obtain ⟨pk', q0, q1, q2, e, n1, n2, e'⟩ := hpk y hy
      exact ⟨pk', q0, q1, q2, e, n1, n2, by rw [upd_ne n2]; exact s7 _ _ (b46 _ _ n1 e')⟩
    · exact ⟨pk, p0, p1, p2, List.mem_singleton.mp hy, npk, npq, by rw [upd_ne npq]; exact e7⟩
  rintro σ Hx ⟨x3, ys, rfl, ex, hyl, hpk, Bx⟩
  have hy3 : ys.length ≤ 3 := by omega
  walk_at "rd"
  refine use1 ⟨b, l, rfl, Bx, fun sg ds q vs H4 PO hq nqb nql hq4 D4 B4 b4 => ?_⟩
  have hds : ds.length ≤ 6 := by
    have := PO.sgs.few
    rw [← PO.heads, List.length_map] at this
    exact this
  have PT : PgT ds := ⟨fun e => by have := PO.sgs.pos; rw [← PO.heads, e] at this; exact absurd this (by decide), by omega, defT_of PO⟩
  have e4 := b4 _ _ (Ne.symm npp.1) ex
  have hpk4 : ∀ y ∈ ys, PkV H4 b pp y := fun y hy => (hpk y hy).bs b4
  walk_at "rd"
  refine use1 ⟨q, vs, ds, rfl, hq4, D4.free, fun d hd => (PT.df d hd).1, PT.few, fun H5 s5 => ?_⟩
  have e5 := s5 _ _ e4
  have B5 := B4.mono s5
  have hpk5 : ∀ y ∈ ys, PkV H5 b pp y := fun y hy => (hpk4 y hy).bs (BSame.of s5)
  have tx := PT.text6 hds
  have ta := prog_asc (fun d hd => (PT.df d hd).1.r)
  have tr := read_shown PT.ne (fun d hd => (PT.df d hd).1.r)
  generalize progT ds = t0 at tx ta tr
  clear D4 hq4 hpk4 e4 B4 b4 hpk Bx ex
  walk_at "rd"
  refine ilK_of (SqL.of e5) ?_
  refine for_list (xs := ys) (fun i σ Hz => ∃ (t : Str) (c5 : Option V), σ = [some (.ref a), some (.ref b), some (.ref pp), x3, some (.str t), c5, none, none, none, none] ∧ isAsc t ∧ t.length ≤ 600000 + 12 * i ∧ (i = 0 → t = t0) ∧ BagAt Hz b l ∧ BSame b H5 Hz) ⟨t0, none, rfl, ta, by omega, fun _ => rfl, B5, BSame.refl _ _⟩ (fun i σ Hz _ ⟨_, _, _, _, _, _, _, bz⟩ => SqL.of (bz _ _ (Ne.symm npp.1) e5)) ?_ ?_
  · rintro i x σ Hz hx ⟨t, c5, rfl, ta, tl, _, Bz, bz⟩
    obtain ⟨pk, p0, p1, p2, rfl, npk, _, epk⟩ := hpk5 x (List.mem_of_getElem? hx)
    have epz := bz _ _ npk epk
    have hi2 : i < 3 := by
      have h1 := (List.getElem?_eq_some_iff.mp hx).1
      omega
    walk_at "rd"
    refine rd_ixaL epz (v := .int p0) (atI_at (n := 0) rfl rfl) ?_
    walk_at "rd"
    refine ite_dd (fun _ => ?_) (fun _ => ?_)
    · walk_at "rd"
      refine use3 ⟨t, 600000 + 12 * i, pk, p0, p1, p2, b, l, rfl, ta, tl, by omega, rfl, epz, npk, rfl, Bz, fun t' HD ta' tl' BD bD => ?_⟩
      walk_at "rd"
      exact ⟨t', _, rfl, ta', by omega, fun z => absurd z (Nat.succ_ne_zero i), BD, bz.trans bD⟩
    · walk_at "rd"
      refine use2 ⟨t, 600000 + 12 * i, pk, p0, p1, p2, rfl, ta, tl, by omega, rfl, epz, fun t' HD ta' tl' sD => ?_⟩
      walk_at "rd"
      exact ⟨t', _, rfl, ta', by omega, fun z => absurd z (Nat.succ_ne_zero i), Bz.mono sD, bz.to sD⟩
  rintro σ Hz ⟨t, c5, rfl, ta, tl, t00, Bz, bz⟩
  have ez := bz _ _ (Ne.symm npp.1) e5
  walk_at "rd"
  refine use1 ⟨t, rfl, by omega, ta, fun ds' p q' e HA HB hw sA np ep ee => ?_, fun p q' HB hw ep eq sB => ?_⟩
  · obtain ⟨te, _, hR⟩ := read_back hw
    have PW := read_W hw (by omega)
    obtain ⟨ws, hqB, DB⟩ := np.at
    refine rd_gtup ep rfl ?_
    walk_at "rd"
    walk_at "mk"; intro pe hpe
    have s6 := Same.new (o := .lst []) hpe
    have e6 : upd HB pe (.lst []) pe = some (.lst []) := upd_same
    generalize upd HB pe (.lst []) = H6 at s6 e6
    refine rd_neE (s6 _ _ ee) e6 ?_
    walk_at "rd"
    refine ite_nd (fun g => absurd rfl g) (fun _ => ?_)
    walk_at "rd"
    have hq6 := s6 _ _ hqB
    have D6 := DB.mono s6
    refine use1 ⟨q', ws, ds', rfl, hq6, D6, PW, fun H7 s7 => ?_⟩
    refine ⟨_, rfl, ?_⟩
    cases hf : formedB ds' with
    | false =>
      walk_at "rd"
      exact k _
    | true =>
      have PT' := formed_T hf hR
      walk_at "rd"
      refine use1 ⟨q', ws, ds', rfl, s7 _ _ hq6, D6.mono s7, PT'.D.1, fun q8 us H8 hq8 D8 s8 => ?_⟩
      walk_at "rd"
      have s78 := s7.trans s8
      refine use1 ⟨q', ws, ds', rfl, s78 _ _ hq6, D6.mono s78, fun d hd => (PT'.df d hd).1, PT'.few, fun H9 s9 => ?_⟩
      rw [te]
      have s79 := s78.trans s9
      walk_at "rd"
      refine rd_isi (t := "str") rfl (by decide) ?_
      walk_at "rd"
      refine ite_no (by decide) ?_
      walk_at "rd"
      refine ite_no (by simp) ?_
      walk_at "rd"
      refine use2 ⟨al_prog (s79 _ _ hq6) (s9 _ _ hq8) (D6.mono s79) (D8.mono s9) PT'.D.1 PT'.D.2, ?_⟩
      refine ⟨_, rfl, ?_⟩
      refine ite_no (by decide) ?_
      walk_at "rd"
      refine useX1 ⟨t, rfl, by omega, ta, fun ds2 hw2 q2 HC np2 => ?_, fun hn => by rw [hw] at hn; cases hn⟩
      rw [hw] at hw2
      obtain rfl := Option.some.inj hw2
      obtain ⟨us2, hqC, DC⟩ := np2.at
      have sC := np2.same
      walk_at "rd"
      refine use2 ⟨al_prog hqC ((s9.trans sC) _ _ hq8) DC (D8.mono (s9.trans sC)) PT'.D.1 PT'.D.2, ?_⟩
      exact k _
  · refine rd_gtup ep rfl ?_
    walk_at "rd"
    walk_at "mk"; intro pe hpe
    have s6 := Same.new (o := .lst []) hpe
    have e6 : upd HB pe (.lst []) pe = some (.lst []) := upd_same
    generalize upd HB pe (.lst []) = H6 at s6 e6
    refine rd_neE (s6 _ _ eq) e6 ?_
    walk_at "rd"
    refine ite_nd (fun _ => ?_) (fun g => by cases g)
    walk_at "rd"
    refine ite_dy rfl ?_
    walk_at "rd"
    walk_at "mk"; intro pf hpf
    have s7 := Same.new (o := .lst [V.bl true, V.bl true, V.bl false]) hpf
    refine rd_eqA (alike_lst (s7 _ _ (s6 _ _ eq)) upd_same rfl (al_cons (Alike.refl _ trivial) (al_cons (Alike.refl _ trivial) (al_cons (Alike.refl _ trivial) al_nil)))) ?_
    walk_at "rd"
    refine rd_lenL' (SqL.of (s7 _ _ (s6 _ _ (sB _ _ ez)))) ?_
    walk_at "rd"
    have hpos : 0 < ys.length := by
      rcases Nat.eq_zero_or_pos ys.length with z | z
      · have := t00 z
        rw [this, tr] at hw
        cases hw
      · exact z
    rw [decide_eq_true (show (0 : Int) < ys.length by omega)]
    exact k _

end
end My

end
end
set_option Elab.async false
set_option linter.all false
set_option maxRecDepth 100000
set_option maxHeartbeats 4000000

namespace My
open PySem L2
theorem len_0 {α : Type} {us : List α} (h : us.length = 0) : us = [] := List.eq_nil_of_length_eq_zero h
theorem len_1 {α : Type} {us : List α} (h : us.length = 1) : ∃ a0, us = [a0] := by
  rcases us with _ | ⟨a0, _ | ⟨b, r⟩⟩
  · simp at h
  · exact ⟨a0, rfl⟩
  · simp at h
theorem len_2 {α : Type} {us : List α} (h : us.length = 2) : ∃ a0 a1, us = [a0, a1] := by
  rcases us with _ | ⟨a0, _ | ⟨a1, _ | ⟨b, r⟩⟩⟩
  · simp at h
  · simp at h
  · exact ⟨a0, a1, rfl⟩
  · simp at h
theorem len_3 {α : Type} {us : List α} (h : us.length = 3) : ∃ a0 a1 a2, us = [a0, a1, a2] := by
  rcases us with _ | ⟨a0, _ | ⟨a1, _ | ⟨a2, _ | ⟨b, r⟩⟩⟩⟩
  · simp at h
  · simp at h
  · simp at h
  · exact ⟨a0, a1, a2, rfl⟩
  · simp at h
theorem len_4 {α : Type} {us : List α} (h : us.length = 4) : ∃ a0 a1 a2 a3, us = [a0, a1, a2, a3] := by
  rcases us with _ | ⟨a0, _ | ⟨a1, _ | ⟨a2, _ | ⟨a3, _ | ⟨b, r⟩⟩⟩⟩⟩
  · simp at h
  · simp at h
  · simp at h
  · simp at h
  · exact ⟨a0, a1, a2, a3, rfl⟩
  · simp at h
theorem len_5 {α : Type} {us : List α} (h : us.length = 5) : ∃ a0 a1 a2 a3 a4, us = [a0, a1, a2, a3, a4] := by
  rcases us with _ | ⟨a0, _ | ⟨a1, _ | ⟨a2, _ | ⟨a3, _ | ⟨a4, _ | ⟨b, r⟩⟩⟩⟩⟩⟩
  · simp at h
  · simp at h
  · simp at h
  · simp at h
  · simp at h
  · exact ⟨a0, a1, a2, a3, a4, rfl⟩
  · simp at h
theorem all_mk {l : PySem.W.OpenLaw} {w : World} {K : PySem.W.Frag} {h : Heap} {mg : Str → Option Value} {fa : Addr} (X : K.In h) (G : h.Ns mainGlobals mg) (hfa : mg "law" = some (.ref fa))
    {f0 : Addr} {od0 an0 : Option Addr} {sl0 : Array (Option Value)} {oc0 kV0 dc0 pm0 cd0 ct0 : Value}
    {f1 : Addr} {od1 an1 : Option Addr} {sl1 : Array (Option Value)} {oc1 kV1 dc1 pm1 cd1 ct1 : Value}
    {f2 : Addr} {od2 an2 : Option Addr} {sl2 : Array (Option Value)} {oc2 kV2 dc2 pm2 cd2 ct2 : Value}
    {f3 : Addr} {od3 an3 : Option Addr} {sl3 : Array (Option Value)} {oc3 kV3 dc3 pm3 cd3 ct3 : Value}
    {f4 : Addr} {od4 an4 : Option Addr} {sl4 : Array (Option Value)} {oc4 kV4 dc4 pm4 cd4 ct4 : Value}
    {f5 : Addr} {od5 an5 : Option Addr} {sl5 : Array (Option Value)} {oc5 kV5 dc5 pm5 cd5 ct5 : Value}
    {f6 : Addr} {od6 an6 : Option Addr} {sl6 : Array (Option Value)} {oc6 kV6 dc6 pm6 cd6 ct6 : Value}
    {f7 : Addr} {od7 an7 : Option Addr} {sl7 : Array (Option Value)} {oc7 kV7 dc7 pm7 cd7 ct7 : Value}
    {f8 : Addr} {od8 an8 : Option Addr} {sl8 : Array (Option Value)} {oc8 kV8 dc8 pm8 cd8 ct8 : Value}
    {f9 : Addr} {od9 an9 : Option Addr} {sl9 : Array (Option Value)} {oc9 kV9 dc9 pm9 cd9 ct9 : Value}
    {f10 : Addr} {od10 an10 : Option Addr} {sl10 : Array (Option Value)} {oc10 kV10 dc10 pm10 cd10 ct10 : Value}
    {f11 : Addr} {od11 an11 : Option Addr} {sl11 : Array (Option Value)} {oc11 kV11 dc11 pm11 cd11 ct11 : Value}
    {f12 : Addr} {od12 an12 : Option Addr} {sl12 : Array (Option Value)} {oc12 kV12 dc12 pm12 cd12 ct12 : Value}
    {f13 : Addr} {od13 an13 : Option Addr} {sl13 : Array (Option Value)} {oc13 kV13 dc13 pm13 cd13 ct13 : Value}
    {f14 : Addr} {od14 an14 : Option Addr} {sl14 : Array (Option Value)} {oc14 kV14 dc14 pm14 cd14 ct14 : Value}
    {f15 : Addr} {od15 an15 : Option Addr} {sl15 : Array (Option Value)} {oc15 kV15 dc15 pm15 cd15 ct15 : Value}
    {f16 : Addr} {od16 an16 : Option Addr} {sl16 : Array (Option Value)} {oc16 kV16 dc16 pm16 cd16 ct16 : Value}
    {f17 : Addr} {od17 an17 : Option Addr} {sl17 : Array (Option Value)} {oc17 kV17 dc17 pm17 cd17 ct17 : Value}
    {f18 : Addr} {od18 an18 : Option Addr} {sl18 : Array (Option Value)} {oc18 kV18 dc18 pm18 cd18 ct18 : Value}
    {f19 : Addr} {od19 an19 : Option Addr} {sl19 : Array (Option Value)} {oc19 kV19 dc19 pm19 cd19 ct19 : Value}
    {f20 : Addr} {od20 an20 : Option Addr} {sl20 : Array (Option Value)} {oc20 kV20 dc20 pm20 cd20 ct20 : Value}
    {f21 : Addr} {od21 an21 : Option Addr} {sl21 : Array (Option Value)} {oc21 kV21 dc21 pm21 cd21 ct21 : Value}
    {f22 : Addr} {od22 an22 : Option Addr} {sl22 : Array (Option Value)} {oc22 kV22 dc22 pm22 cd22 ct22 : Value}
    {f23 : Addr} {od23 an23 : Option Addr} {sl23 : Array (Option Value)} {oc23 kV23 dc23 pm23 cd23 ct23 : Value}
    {f24 : Addr} {od24 an24 : Option Addr} {sl24 : Array (Option Value)} {oc24 kV24 dc24 pm24 cd24 ct24 : Value}
    {f25 : Addr} {od25 an25 : Option Addr} {sl25 : Array (Option Value)} {oc25 kV25 dc25 pm25 cd25 ct25 : Value}
    {f26 : Addr} {od26 an26 : Option Addr} {sl26 : Array (Option Value)} {oc26 kV26 dc26 pm26 cd26 ct26 : Value}
    {f27 : Addr} {od27 an27 : Option Addr} {sl27 : Array (Option Value)} {oc27 kV27 dc27 pm27 cd27 ct27 : Value}
    {f28 : Addr} {od28 an28 : Option Addr} {sl28 : Array (Option Value)} {oc28 kV28 dc28 pm28 cd28 ct28 : Value}
    {f29 : Addr} {od29 an29 : Option Addr} {sl29 : Array (Option Value)} {oc29 kV29 dc29 pm29 cd29 ct29 : Value}
    {t_FIGURES : Tok}
    {t_MOST_FIGURES : Tok}
    {a_PARTS : Addr} {ep_PARTS : Nat}
    {t_PARTS_0 : Tok} {a_PARTS_0 : Addr} {od_PARTS_0 : Option Addr} {n_PARTS_0 : Nat} {sl_PARTS_0 : Array (Option Value)} {t_PARTS_0_0 t_PARTS_0_1 : Tok}
    {t_PARTS_1 : Tok} {a_PARTS_1 : Addr} {od_PARTS_1 : Option Addr} {n_PARTS_1 : Nat} {sl_PARTS_1 : Array (Option Value)} {t_PARTS_1_0 t_PARTS_1_1 : Tok}
    {t_PARTS_2 : Tok} {a_PARTS_2 : Addr} {od_PARTS_2 : Option Addr} {n_PARTS_2 : Nat} {sl_PARTS_2 : Array (Option Value)} {t_PARTS_2_0 t_PARTS_2_1 t_PARTS_2_2 : Tok}
    {t_PARTS_3 : Tok} {a_PARTS_3 : Addr} {od_PARTS_3 : Option Addr} {n_PARTS_3 : Nat} {sl_PARTS_3 : Array (Option Value)} {t_PARTS_3_0 t_PARTS_3_1 t_PARTS_3_2 : Tok}
    {t_PARTS_4 : Tok} {a_PARTS_4 : Addr} {od_PARTS_4 : Option Addr} {n_PARTS_4 : Nat} {sl_PARTS_4 : Array (Option Value)} {t_PARTS_4_0 t_PARTS_4_1 t_PARTS_4_2 : Tok}
    {t_PARTS_5 : Tok} {a_PARTS_5 : Addr} {od_PARTS_5 : Option Addr} {n_PARTS_5 : Nat} {sl_PARTS_5 : Array (Option Value)} {t_PARTS_5_0 : Tok}
    {t_PARTS_6 : Tok} {a_PARTS_6 : Addr} {od_PARTS_6 : Option Addr} {n_PARTS_6 : Nat} {sl_PARTS_6 : Array (Option Value)} {t_PARTS_6_0 : Tok}
    {t_PARTS_7 : Tok} {a_PARTS_7 : Addr} {od_PARTS_7 : Option Addr} {n_PARTS_7 : Nat} {sl_PARTS_7 : Array (Option Value)} {t_PARTS_7_0 : Tok}
    {t_PARTS_8 : Tok} {a_PARTS_8 : Addr} {od_PARTS_8 : Option Addr} {n_PARTS_8 : Nat} {sl_PARTS_8 : Array (Option Value)} {t_PARTS_8_0 t_PARTS_8_1 : Tok}
    {t_PARTS_9 : Tok} {a_PARTS_9 : Addr} {od_PARTS_9 : Option Addr} {n_PARTS_9 : Nat} {sl_PARTS_9 : Array (Option Value)} {t_PARTS_9_0 t_PARTS_9_1 : Tok}
    {t_PARTS_10 : Tok} {a_PARTS_10 : Addr} {od_PARTS_10 : Option Addr} {n_PARTS_10 : Nat} {sl_PARTS_10 : Array (Option Value)} {t_PARTS_10_0 t_PARTS_10_1 t_PARTS_10_2 : Tok}
    {t_PARTS_11 : Tok} {a_PARTS_11 : Addr} {od_PARTS_11 : Option Addr} {n_PARTS_11 : Nat} {sl_PARTS_11 : Array (Option Value)} {t_PARTS_11_0 : Tok}
    (a0 : PySem.W.nsIn K mainGlobals "shown" = some (some (.ref f0))) (l0 : K.lookup f0 = some ⟨oc0, od0, .func (PySem.W.fnOf "shown" "shown" (defArgs s_shown) (defBody s_shown) (defScope s_shown) .none kV0 dc0 pm0 an0 cd0 ct0), sl0⟩) (c0 : PySem.W.codeIn K cd0 "shown" = true) (k0 : PySem.W.keepIn K (.ref f0) = true)
    (a1 : PySem.W.nsIn K mainGlobals "shown_def" = some (some (.ref f1))) (l1 : K.lookup f1 = some ⟨oc1, od1, .func (PySem.W.fnOf "shown_def" "shown_def" (defArgs s_shown_def) (defBody s_shown_def) (defScope s_shown_def) .none kV1 dc1 pm1 an1 cd1 ct1), sl1⟩) (c1 : PySem.W.codeIn K cd1 "shown_def" = true) (k1 : PySem.W.keepIn K (.ref f1) = true)
    (a2 : PySem.W.nsIn K mainGlobals "shown_row" = some (some (.ref f2))) (l2 : K.lookup f2 = some ⟨oc2, od2, .func (PySem.W.fnOf "shown_row" "shown_row" (defArgs s_shown_row) (defBody s_shown_row) (defScope s_shown_row) .none kV2 dc2 pm2 an2 cd2 ct2), sl2⟩) (c2 : PySem.W.codeIn K cd2 "shown_row" = true) (k2 : PySem.W.keepIn K (.ref f2) = true)
    (a3 : PySem.W.nsIn K mainGlobals "numbers_of" = some (some (.ref f3))) (l3 : K.lookup f3 = some ⟨oc3, od3, .func (PySem.W.fnOf "numbers_of" "numbers_of" (defArgs s_numbers_of) (defBody s_numbers_of) (defScope s_numbers_of) .none kV3 dc3 pm3 an3 cd3 ct3), sl3⟩) (c3 : PySem.W.codeIn K cd3 "numbers_of" = true) (k3 : PySem.W.keepIn K (.ref f3) = true)
    (a4 : PySem.W.nsIn K mainGlobals "read" = some (some (.ref f4))) (l4 : K.lookup f4 = some ⟨oc4, od4, .func (PySem.W.fnOf "read" "read" (defArgs s_read) (defBody s_read) (defScope s_read) .none kV4 dc4 pm4 an4 cd4 ct4), sl4⟩) (c4 : PySem.W.codeIn K cd4 "read" = true) (k4 : PySem.W.keepIn K (.ref f4) = true)
    (a5 : PySem.W.nsIn K mainGlobals "read_head" = some (some (.ref f5))) (l5 : K.lookup f5 = some ⟨oc5, od5, .func (PySem.W.fnOf "read_head" "read_head" (defArgs s_read_head) (defBody s_read_head) (defScope s_read_head) .none kV5 dc5 pm5 an5 cd5 ct5), sl5⟩) (c5 : PySem.W.codeIn K cd5 "read_head" = true) (k5 : PySem.W.keepIn K (.ref f5) = true)
    (a6 : PySem.W.nsIn K mainGlobals "read_row" = some (some (.ref f6))) (l6 : K.lookup f6 = some ⟨oc6, od6, .func (PySem.W.fnOf "read_row" "read_row" (defArgs s_read_row) (defBody s_read_row) (defScope s_read_row) .none kV6 dc6 pm6 an6 cd6 ct6), sl6⟩) (c6 : PySem.W.codeIn K cd6 "read_row" = true) (k6 : PySem.W.keepIn K (.ref f6) = true)
    (a7 : PySem.W.nsIn K mainGlobals "read_call" = some (some (.ref f7))) (l7 : K.lookup f7 = some ⟨oc7, od7, .func (PySem.W.fnOf "read_call" "read_call" (defArgs s_read_call) (defBody s_read_call) (defScope s_read_call) .none kV7 dc7 pm7 an7 cd7 ct7), sl7⟩) (c7 : PySem.W.codeIn K cd7 "read_call" = true) (k7 : PySem.W.keepIn K (.ref f7) = true)
    (a8 : PySem.W.nsIn K mainGlobals "read_whole" = some (some (.ref f8))) (l8 : K.lookup f8 = some ⟨oc8, od8, .func (PySem.W.fnOf "read_whole" "read_whole" (defArgs s_read_whole) (defBody s_read_whole) (defScope s_read_whole) .none kV8 dc8 pm8 an8 cd8 ct8), sl8⟩) (c8 : PySem.W.codeIn K cd8 "read_whole" = true) (k8 : PySem.W.keepIn K (.ref f8) = true)
    (a9 : PySem.W.nsIn K mainGlobals "_law_bag" = some (some (.ref f9))) (l9 : K.lookup f9 = some ⟨oc9, od9, .func (PySem.W.fnOf "_law_bag" "_law_bag" (defArgs s__law_bag) (defBody s__law_bag) (defScope s__law_bag) .none kV9 dc9 pm9 an9 cd9 ct9), sl9⟩) (c9 : PySem.W.codeIn K cd9 "_law_bag" = true) (k9 : PySem.W.keepIn K (.ref f9) = true)
    (a10 : PySem.W.nsIn K mainGlobals "_law_draw" = some (some (.ref f10))) (l10 : K.lookup f10 = some ⟨oc10, od10, .func (PySem.W.fnOf "_law_draw" "_law_draw" (defArgs s__law_draw) (defBody s__law_draw) (defScope s__law_draw) .none kV10 dc10 pm10 an10 cd10 ct10), sl10⟩) (c10 : PySem.W.codeIn K cd10 "_law_draw" = true) (k10 : PySem.W.keepIn K (.ref f10) = true)
    (a11 : PySem.W.nsIn K mainGlobals "_law_number" = some (some (.ref f11))) (l11 : K.lookup f11 = some ⟨oc11, od11, .func (PySem.W.fnOf "_law_number" "_law_number" (defArgs s__law_number) (defBody s__law_number) (defScope s__law_number) .none kV11 dc11 pm11 an11 cd11 ct11), sl11⟩) (c11 : PySem.W.codeIn K cd11 "_law_number" = true) (k11 : PySem.W.keepIn K (.ref f11) = true)
    (a12 : PySem.W.nsIn K mainGlobals "_law_letters" = some (some (.ref f12))) (l12 : K.lookup f12 = some ⟨oc12, od12, .func (PySem.W.fnOf "_law_letters" "_law_letters" (defArgs s__law_letters) (defBody s__law_letters) (defScope s__law_letters) .none kV12 dc12 pm12 an12 cd12 ct12), sl12⟩) (c12 : PySem.W.codeIn K cd12 "_law_letters" = true) (k12 : PySem.W.keepIn K (.ref f12) = true)
    (a13 : PySem.W.nsIn K mainGlobals "_law_part" = some (some (.ref f13))) (l13 : K.lookup f13 = some ⟨oc13, od13, .func (PySem.W.fnOf "_law_part" "_law_part" (defArgs s__law_part) (defBody s__law_part) (defScope s__law_part) .none kV13 dc13 pm13 an13 cd13 ct13), sl13⟩) (c13 : PySem.W.codeIn K cd13 "_law_part" = true) (k13 : PySem.W.keepIn K (.ref f13) = true)
    (a14 : PySem.W.nsIn K mainGlobals "_law_row" = some (some (.ref f14))) (l14 : K.lookup f14 = some ⟨oc14, od14, .func (PySem.W.fnOf "_law_row" "_law_row" (defArgs s__law_row) (defBody s__law_row) (defScope s__law_row) .none kV14 dc14 pm14 an14 cd14 ct14), sl14⟩) (c14 : PySem.W.codeIn K cd14 "_law_row" = true) (k14 : PySem.W.keepIn K (.ref f14) = true)
    (a15 : PySem.W.nsIn K mainGlobals "_law_rows" = some (some (.ref f15))) (l15 : K.lookup f15 = some ⟨oc15, od15, .func (PySem.W.fnOf "_law_rows" "_law_rows" (defArgs s__law_rows) (defBody s__law_rows) (defScope s__law_rows) .none kV15 dc15 pm15 an15 cd15 ct15), sl15⟩) (c15 : PySem.W.codeIn K cd15 "_law_rows" = true) (k15 : PySem.W.keepIn K (.ref f15) = true)
    (a16 : PySem.W.nsIn K mainGlobals "_law_signs" = some (some (.ref f16))) (l16 : K.lookup f16 = some ⟨oc16, od16, .func (PySem.W.fnOf "_law_signs" "_law_signs" (defArgs s__law_signs) (defBody s__law_signs) (defScope s__law_signs) .none kV16 dc16 pm16 an16 cd16 ct16), sl16⟩) (c16 : PySem.W.codeIn K cd16 "_law_signs" = true) (k16 : PySem.W.keepIn K (.ref f16) = true)
    (a17 : PySem.W.nsIn K mainGlobals "_law_program" = some (some (.ref f17))) (l17 : K.lookup f17 = some ⟨oc17, od17, .func (PySem.W.fnOf "_law_program" "_law_program" (defArgs s__law_program) (defBody s__law_program) (defScope s__law_program) .none kV17 dc17 pm17 an17 cd17 ct17), sl17⟩) (c17 : PySem.W.codeIn K cd17 "_law_program" = true) (k17 : PySem.W.keepIn K (.ref f17) = true)
    (a18 : PySem.W.nsIn K mainGlobals "_law_written" = some (some (.ref f18))) (l18 : K.lookup f18 = some ⟨oc18, od18, .func (PySem.W.fnOf "_law_written" "_law_written" (defArgs s__law_written) (defBody s__law_written) (defScope s__law_written) .none kV18 dc18 pm18 an18 cd18 ct18), sl18⟩) (c18 : PySem.W.codeIn K cd18 "_law_written" = true) (k18 : PySem.W.keepIn K (.ref f18) = true)
    (a19 : PySem.W.nsIn K mainGlobals "_law_any_sign" = some (some (.ref f19))) (l19 : K.lookup f19 = some ⟨oc19, od19, .func (PySem.W.fnOf "_law_any_sign" "_law_any_sign" (defArgs s__law_any_sign) (defBody s__law_any_sign) (defScope s__law_any_sign) .none kV19 dc19 pm19 an19 cd19 ct19), sl19⟩) (c19 : PySem.W.codeIn K cd19 "_law_any_sign" = true) (k19 : PySem.W.keepIn K (.ref f19) = true)
    (a20 : PySem.W.nsIn K mainGlobals "_law_run" = some (some (.ref f20))) (l20 : K.lookup f20 = some ⟨oc20, od20, .func (PySem.W.fnOf "_law_run" "_law_run" (defArgs s__law_run) (defBody s__law_run) (defScope s__law_run) .none kV20 dc20 pm20 an20 cd20 ct20), sl20⟩) (c20 : PySem.W.codeIn K cd20 "_law_run" = true) (k20 : PySem.W.keepIn K (.ref f20) = true)
    (a21 : PySem.W.nsIn K mainGlobals "_law_bent_text" = some (some (.ref f21))) (l21 : K.lookup f21 = some ⟨oc21, od21, .func (PySem.W.fnOf "_law_bent_text" "_law_bent_text" (defArgs s__law_bent_text) (defBody s__law_bent_text) (defScope s__law_bent_text) .none kV21 dc21 pm21 an21 cd21 ct21), sl21⟩) (c21 : PySem.W.codeIn K cd21 "_law_bent_text" = true) (k21 : PySem.W.keepIn K (.ref f21) = true)
    (a22 : PySem.W.nsIn K mainGlobals "_law_part_good" = some (some (.ref f22))) (l22 : K.lookup f22 = some ⟨oc22, od22, .func (PySem.W.fnOf "_law_part_good" "_law_part_good" (defArgs s__law_part_good) (defBody s__law_part_good) (defScope s__law_part_good) .none kV22 dc22 pm22 an22 cd22 ct22), sl22⟩) (c22 : PySem.W.codeIn K cd22 "_law_part_good" = true) (k22 : PySem.W.keepIn K (.ref f22) = true)
    (a23 : PySem.W.nsIn K mainGlobals "_law_row_good" = some (some (.ref f23))) (l23 : K.lookup f23 = some ⟨oc23, od23, .func (PySem.W.fnOf "_law_row_good" "_law_row_good" (defArgs s__law_row_good) (defBody s__law_row_good) (defScope s__law_row_good) .none kV23 dc23 pm23 an23 cd23 ct23), sl23⟩) (c23 : PySem.W.codeIn K cd23 "_law_row_good" = true) (k23 : PySem.W.keepIn K (.ref f23) = true)
    (a24 : PySem.W.nsIn K mainGlobals "_law_formed" = some (some (.ref f24))) (l24 : K.lookup f24 = some ⟨oc24, od24, .func (PySem.W.fnOf "_law_formed" "_law_formed" (defArgs s__law_formed) (defBody s__law_formed) (defScope s__law_formed) .none kV24 dc24 pm24 an24 cd24 ct24), sl24⟩) (c24 : PySem.W.codeIn K cd24 "_law_formed" = true) (k24 : PySem.W.keepIn K (.ref f24) = true)
    (a25 : PySem.W.nsIn K mainGlobals "_law_read" = some (some (.ref f25))) (l25 : K.lookup f25 = some ⟨oc25, od25, .func (PySem.W.fnOf "_law_read" "_law_read" (defArgs s__law_read) (defBody s__law_read) (defScope s__law_read) .none kV25 dc25 pm25 an25 cd25 ct25), sl25⟩) (c25 : PySem.W.codeIn K cd25 "_law_read" = true) (k25 : PySem.W.keepIn K (.ref f25) = true)
    (a26 : PySem.W.nsIn K mainGlobals "_law_copy" = some (some (.ref f26))) (l26 : K.lookup f26 = some ⟨oc26, od26, .func (PySem.W.fnOf "_law_copy" "_law_copy" (defArgs s__law_copy) (defBody s__law_copy) (defScope s__law_copy) .none kV26 dc26 pm26 an26 cd26 ct26), sl26⟩) (c26 : PySem.W.codeIn K cd26 "_law_copy" = true) (k26 : PySem.W.keepIn K (.ref f26) = true)
    (a27 : PySem.W.nsIn K mainGlobals "_law_alike" = some (some (.ref f27))) (l27 : K.lookup f27 = some ⟨oc27, od27, .func (PySem.W.fnOf "_law_alike" "_law_alike" (defArgs s__law_alike) (defBody s__law_alike) (defScope s__law_alike) .none kV27 dc27 pm27 an27 cd27 ct27), sl27⟩) (c27 : PySem.W.codeIn K cd27 "_law_alike" = true) (k27 : PySem.W.keepIn K (.ref f27) = true)
    (a28 : PySem.W.nsIn K mainGlobals "_law_turned" = some (some (.ref f28))) (l28 : K.lookup f28 = some ⟨oc28, od28, .func (PySem.W.fnOf "_law_turned" "_law_turned" (defArgs s__law_turned) (defBody s__law_turned) (defScope s__law_turned) .none kV28 dc28 pm28 an28 cd28 ct28), sl28⟩) (c28 : PySem.W.codeIn K cd28 "_law_turned" = true) (k28 : PySem.W.keepIn K (.ref f28) = true)
    (a29 : PySem.W.nsIn K mainGlobals "law" = some (some (.ref f29))) (l29 : K.lookup f29 = some ⟨oc29, od29, .func (PySem.W.fnOf "law" "law" (defArgs s_law) (defBody s_law) (defScope s_law) .none kV29 dc29 pm29 an29 cd29 ct29), sl29⟩) (c29 : PySem.W.codeIn K cd29 "law" = true) (k29 : PySem.W.keepIn K (.ref f29) = true)
    (g_FIGURES : PySem.W.nsIn K mainGlobals "FIGURES" = some (some (.str "0123456789" t_FIGURES)))
    (g_MOST_FIGURES : PySem.W.nsIn K mainGlobals "MOST_FIGURES" = some (some (.int 60 t_MOST_FIGURES)))
    (g_PARTS : PySem.W.nsIn K mainGlobals "PARTS" = some (some (.ref a_PARTS))) (h_PARTS : K.lookup a_PARTS = some { cls := .type "dict", data := .dict #[⟨hashStr w "put", .str "put" t_PARTS_0, .ref a_PARTS_0⟩, ⟨hashStr w "copy", .str "copy" t_PARTS_1, .ref a_PARTS_1⟩, ⟨hashStr w "plus", .str "plus" t_PARTS_2, .ref a_PARTS_2⟩, ⟨hashStr w "less", .str "less" t_PARTS_3, .ref a_PARTS_3⟩, ⟨hashStr w "times", .str "times" t_PARTS_4, .ref a_PARTS_4⟩, ⟨hashStr w "take", .str "take" t_PARTS_5, .ref a_PARTS_5⟩, ⟨hashStr w "tell", .str "tell" t_PARTS_6, .ref a_PARTS_6⟩, ⟨hashStr w "jump", .str "jump" t_PARTS_7, .ref a_PARTS_7⟩, ⟨hashStr w "zero", .str "zero" t_PARTS_8, .ref a_PARTS_8⟩, ⟨hashStr w "below", .str "below" t_PARTS_9, .ref a_PARTS_9⟩, ⟨hashStr w "call", .str "call" t_PARTS_10, .ref a_PARTS_10⟩, ⟨hashStr w "back", .str "back" t_PARTS_11, .ref a_PARTS_11⟩] ep_PARTS }) (s_PARTS : (a_PARTS == sysModules) = false)
    (h_PARTS_0 : K.lookup a_PARTS_0 = some ⟨.type "tuple", od_PARTS_0, .seq #[.str "box" t_PARTS_0_0, .str "number" t_PARTS_0_1] n_PARTS_0, sl_PARTS_0⟩)
    (h_PARTS_1 : K.lookup a_PARTS_1 = some ⟨.type "tuple", od_PARTS_1, .seq #[.str "box" t_PARTS_1_0, .str "box" t_PARTS_1_1] n_PARTS_1, sl_PARTS_1⟩)
    (h_PARTS_2 : K.lookup a_PARTS_2 = some ⟨.type "tuple", od_PARTS_2, .seq #[.str "box" t_PARTS_2_0, .str "box" t_PARTS_2_1, .str "box" t_PARTS_2_2] n_PARTS_2, sl_PARTS_2⟩)
    (h_PARTS_3 : K.lookup a_PARTS_3 = some ⟨.type "tuple", od_PARTS_3, .seq #[.str "box" t_PARTS_3_0, .str "box" t_PARTS_3_1, .str "box" t_PARTS_3_2] n_PARTS_3, sl_PARTS_3⟩)
    (h_PARTS_4 : K.lookup a_PARTS_4 = some ⟨.type "tuple", od_PARTS_4, .seq #[.str "box" t_PARTS_4_0, .str "box" t_PARTS_4_1, .str "factor" t_PARTS_4_2] n_PARTS_4, sl_PARTS_4⟩)
    (h_PARTS_5 : K.lookup a_PARTS_5 = some ⟨.type "tuple", od_PARTS_5, .seq #[.str "box" t_PARTS_5_0] n_PARTS_5, sl_PARTS_5⟩)
    (h_PARTS_6 : K.lookup a_PARTS_6 = some ⟨.type "tuple", od_PARTS_6, .seq #[.str "box" t_PARTS_6_0] n_PARTS_6, sl_PARTS_6⟩)
    (h_PARTS_7 : K.lookup a_PARTS_7 = some ⟨.type "tuple", od_PARTS_7, .seq #[.str "row" t_PARTS_7_0] n_PARTS_7, sl_PARTS_7⟩)
    (h_PARTS_8 : K.lookup a_PARTS_8 = some ⟨.type "tuple", od_PARTS_8, .seq #[.str "box" t_PARTS_8_0, .str "row" t_PARTS_8_1] n_PARTS_8, sl_PARTS_8⟩)
    (h_PARTS_9 : K.lookup a_PARTS_9 = some ⟨.type "tuple", od_PARTS_9, .seq #[.str "box" t_PARTS_9_0, .str "row" t_PARTS_9_1] n_PARTS_9, sl_PARTS_9⟩)
    (h_PARTS_10 : K.lookup a_PARTS_10 = some ⟨.type "tuple", od_PARTS_10, .seq #[.str "box" t_PARTS_10_0, .str "def" t_PARTS_10_1, .str "boxes" t_PARTS_10_2] n_PARTS_10, sl_PARTS_10⟩)
    (h_PARTS_11 : K.lookup a_PARTS_11 = some ⟨.type "tuple", od_PARTS_11, .seq #[.str "box" t_PARTS_11_0] n_PARTS_11, sl_PARTS_11⟩)
    {C_NoText : Addr} (e_NoText : PySem.W.nsIn K mainGlobals "NoText" = some (some (.ref C_NoText)))
    {C_LaneError : Addr} (e_LaneError : PySem.W.nsIn K mainGlobals "LaneError" = some (some (.ref C_LaneError)))
    {C_NotFormed : Addr} (e_NotFormed : PySem.W.nsIn K mainGlobals "NotFormed" = some (some (.ref C_NotFormed)))
    {C_Faulty : Addr} (e_Faulty : PySem.W.nsIn K mainGlobals "Faulty" = some (some (.ref C_Faulty)))
    (e_exc : PySem.W.excIn K C_NoText bmVE "ValueError.__new__" = true) (e_x : PySem.W.exmOne K (.ref C_NoText) (.ref C_LaneError) = some true)
    (e_ga : PySem.W.findIn K (.ref C_NoText) "__getattribute__" = some (some (.builtin "BaseException.__getattribute__"))) (e_gh : PySem.W.findIn K (.ref C_NoText) "__getattr__" = some none) (e_fc : PySem.W.findIn K (.ref C_NoText) "__class__" = some (some (.builtin "object.__class__")))
    (e_sg : PySem.W.specialIn K (.builtin "object.__class__") "__get__" = some (some (.builtin "getset_descriptor.__get__"))) (e_tk : PySem.W.takesIn K (.builtin "object.__class__") = some true) (e_mo : PySem.W.mroIn K C_NoText (.type "object") = some true) (e_mb : PySem.W.mroIn K C_NoText (.type "BaseException") = some true)
    (e_kc : PySem.W.kitCls K (.ref C_NoText) (.ref C_NoText) = some true) (e_kV : PySem.W.kitCls K (.ref C_NoText) (.type "ValueError") = some true) (e_kN : PySem.W.kitCls K (.ref C_NoText) (.ref C_NotFormed) = some false) (e_kF : PySem.W.kitCls K (.ref C_NoText) (.ref C_Faulty) = some false)
    (e_nN : (Value.ref C_NoText == Value.ref C_NotFormed) = false) (e_nF : (Value.ref C_NoText == Value.ref C_Faulty) = false)
    (z_ValueError : PySem.W.nsIn K mainGlobals "ValueError" = some none)
    (z_abs : PySem.W.nsIn K mainGlobals "abs" = some none)
    (z_all : PySem.W.nsIn K mainGlobals "all" = some none)
    (z_bool : PySem.W.nsIn K mainGlobals "bool" = some none)
    (z_int : PySem.W.nsIn K mainGlobals "int" = some none)
    (z_isinstance : PySem.W.nsIn K mainGlobals "isinstance" = some none)
    (z_len : PySem.W.nsIn K mainGlobals "len" = some none)
    (z_list : PySem.W.nsIn K mainGlobals "list" = some none)
    (z_min : PySem.W.nsIn K mainGlobals "min" = some none)
    (z_range : PySem.W.nsIn K mainGlobals "range" = some none)
    (z_str : PySem.W.nsIn K mainGlobals "str" = some none)
    (z_tuple : PySem.W.nsIn K mainGlobals "tuple" = some none)
    : ∃ fd : FuncData, (∀ (s : Shared) (v : Value), BindsTo s fd ⟨[v], []⟩ [("script", v)]) ∧ ∀ base : Heap, K.In base → base.Ns mainGlobals mg → FnOk l.prog w K mg base CX0 14 fa fd ["script"] (spLaw K) := by
  have HX : ExH K mg C_NoText C_LaneError C_NotFormed C_Faulty := ⟨PySem.W.mg_of X G e_NoText, e_exc, PySem.W.mg_of X G e_LaneError, PySem.W.mg_of X G e_NotFormed, PySem.W.mg_of X G e_Faulty, e_x, ⟨e_ga, e_gh, e_fc, e_sg, e_tk, e_mo, e_mb, e_kc⟩, e_kV, e_kN, e_kF, e_nN, e_nF⟩
  have B : Blt mg := ⟨PySem.W.mg_none_of X G z_ValueError, PySem.W.mg_none_of X G z_abs, PySem.W.mg_none_of X G z_all, PySem.W.mg_none_of X G z_bool, PySem.W.mg_none_of X G z_int, PySem.W.mg_none_of X G z_isinstance, PySem.W.mg_none_of X G z_len, PySem.W.mg_none_of X G z_list, PySem.W.mg_none_of X G z_min, PySem.W.mg_none_of X G z_range, PySem.W.mg_none_of X G z_str, PySem.W.mg_none_of X G z_tuple⟩
  have GG : Glb K w mg := ⟨⟨_, PySem.W.mg_of X G g_FIGURES⟩, ⟨_, PySem.W.mg_of X G g_MOST_FIGURES⟩, ⟨_, PySem.W.mg_of X G g_PARTS, s_PARTS, by decide +kernel, [("put", t_PARTS_0, a_PARTS_0), ("copy", t_PARTS_1, a_PARTS_1), ("plus", t_PARTS_2, a_PARTS_2), ("less", t_PARTS_3, a_PARTS_3), ("times", t_PARTS_4, a_PARTS_4), ("take", t_PARTS_5, a_PARTS_5), ("tell", t_PARTS_6, a_PARTS_6), ("jump", t_PARTS_7, a_PARTS_7), ("zero", t_PARTS_8, a_PARTS_8), ("below", t_PARTS_9, a_PARTS_9), ("call", t_PARTS_10, a_PARTS_10), ("back", t_PARTS_11, a_PARTS_11)], ep_PARTS, h_PARTS, .cons ⟨rfl, ⟨_, _, _, h_PARTS_0, rfl, rfl, mk_le rfl, .cons ⟨_, rfl⟩ (.cons ⟨_, rfl⟩ (.nil))⟩⟩ (.cons ⟨rfl, ⟨_, _, _, h_PARTS_1, rfl, rfl, mk_le rfl, .cons ⟨_, rfl⟩ (.cons ⟨_, rfl⟩ (.nil))⟩⟩ (.cons ⟨rfl, ⟨_, _, _, h_PARTS_2, rfl, rfl, mk_le rfl, .cons ⟨_, rfl⟩ (.cons ⟨_, rfl⟩ (.cons ⟨_, rfl⟩ (.nil)))⟩⟩ (.cons ⟨rfl, ⟨_, _, _, h_PARTS_3, rfl, rfl, mk_le rfl, .cons ⟨_, rfl⟩ (.cons ⟨_, rfl⟩ (.cons ⟨_, rfl⟩ (.nil)))⟩⟩ (.cons ⟨rfl, ⟨_, _, _, h_PARTS_4, rfl, rfl, mk_le rfl, .cons ⟨_, rfl⟩ (.cons ⟨_, rfl⟩ (.cons ⟨_, rfl⟩ (.nil)))⟩⟩ (.cons ⟨rfl, ⟨_, _, _, h_PARTS_5, rfl, rfl, mk_le rfl, .cons ⟨_, rfl⟩ (.nil)⟩⟩ (.cons ⟨rfl, ⟨_, _, _, h_PARTS_6, rfl, rfl, mk_le rfl, .cons ⟨_, rfl⟩ (.nil)⟩⟩ (.cons ⟨rfl, ⟨_, _, _, h_PARTS_7, rfl, rfl, mk_le rfl, .cons ⟨_, rfl⟩ (.nil)⟩⟩ (.cons ⟨rfl, ⟨_, _, _, h_PARTS_8, rfl, rfl, mk_le rfl, .cons ⟨_, rfl⟩ (.cons ⟨_, rfl⟩ (.nil))⟩⟩ (.cons ⟨rfl, ⟨_, _, _, h_PARTS_9, rfl, rfl, mk_le rfl, .cons ⟨_, rfl⟩ (.cons ⟨_, rfl⟩ (.nil))⟩⟩ (.cons ⟨rfl, ⟨_, _, _, h_PARTS_10, rfl, rfl, mk_le rfl, .cons ⟨_, rfl⟩ (.cons ⟨_, rfl⟩ (.cons ⟨_, rfl⟩ (.nil)))⟩⟩ (.cons ⟨rfl, ⟨_, _, _, h_PARTS_11, rfl, rfl, mk_le rfl, .cons ⟨_, rfl⟩ (.nil)⟩⟩ (.nil))))))))))))⟩⟩
  have F0 := fun_mk (st := s_shown) l0 c0 k0
  have T_shown : TopFn K mg "shown" s_shown ["program"] := ⟨_, _, F0, PySem.W.mg_of X G a0, F0.binds (ps := ["program"]) fun _ _ _ _ _ _ us hl => by obtain ⟨_, rfl⟩ := len_1 hl; rfl⟩
  have F1 := fun_mk (st := s_shown_def) l1 c1 k1
  have T_shown_def : TopFn K mg "shown_def" s_shown_def ["one"] := ⟨_, _, F1, PySem.W.mg_of X G a1, F1.binds (ps := ["one"]) fun _ _ _ _ _ _ us hl => by obtain ⟨_, rfl⟩ := len_1 hl; rfl⟩
  have F2 := fun_mk (st := s_shown_row) l2 c2 k2
  have T_shown_row : TopFn K mg "shown_row" s_shown_row ["word", "numbers"] := ⟨_, _, F2, PySem.W.mg_of X G a2, F2.binds (ps := ["word", "numbers"]) fun _ _ _ _ _ _ us hl => by obtain ⟨_, _, rfl⟩ := len_2 hl; rfl⟩
  have F3 := fun_mk (st := s_numbers_of) l3 c3 k3
  have T_numbers_of : TopFn K mg "numbers_of" s_numbers_of ["row"] := ⟨_, _, F3, PySem.W.mg_of X G a3, F3.binds (ps := ["row"]) fun _ _ _ _ _ _ us hl => by obtain ⟨_, rfl⟩ := len_1 hl; rfl⟩
  have F4 := fun_mk (st := s_read) l4 c4 k4
  have T_read : TopFn K mg "read" s_read ["text"] := ⟨_, _, F4, PySem.W.mg_of X G a4, F4.binds (ps := ["text"]) fun _ _ _ _ _ _ us hl => by obtain ⟨_, rfl⟩ := len_1 hl; rfl⟩
  have F5 := fun_mk (st := s_read_head) l5 c5 k5
  have T_read_head : TopFn K mg "read_head" s_read_head ["numbers"] := ⟨_, _, F5, PySem.W.mg_of X G a5, F5.binds (ps := ["numbers"]) fun _ _ _ _ _ _ us hl => by obtain ⟨_, rfl⟩ := len_1 hl; rfl⟩
  have F6 := fun_mk (st := s_read_row) l6 c6 k6
  have T_read_row : TopFn K mg "read_row" s_read_row ["word", "numbers"] := ⟨_, _, F6, PySem.W.mg_of X G a6, F6.binds (ps := ["word", "numbers"]) fun _ _ _ _ _ _ us hl => by obtain ⟨_, _, rfl⟩ := len_2 hl; rfl⟩
  have F7 := fun_mk (st := s_read_call) l7 c7 k7
  have T_read_call : TopFn K mg "read_call" s_read_call ["numbers"] := ⟨_, _, F7, PySem.W.mg_of X G a7, F7.binds (ps := ["numbers"]) fun _ _ _ _ _ _ us hl => by obtain ⟨_, rfl⟩ := len_1 hl; rfl⟩
  have F8 := fun_mk (st := s_read_whole) l8 c8 k8
  have T_read_whole : TopFn K mg "read_whole" s_read_whole ["text", "most"] := ⟨_, _, F8, PySem.W.mg_of X G a8, F8.binds (ps := ["text", "most"]) fun _ _ _ _ _ _ us hl => by obtain ⟨_, _, rfl⟩ := len_2 hl; rfl⟩
  have F9 := fun_mk (st := s__law_bag) l9 c9 k9
  have T__law_bag : TopFn K mg "_law_bag" s__law_bag ["script"] := ⟨_, _, F9, PySem.W.mg_of X G a9, F9.binds (ps := ["script"]) fun _ _ _ _ _ _ us hl => by obtain ⟨_, rfl⟩ := len_1 hl; rfl⟩
  have F10 := fun_mk (st := s__law_draw) l10 c10 k10
  have T__law_draw : TopFn K mg "_law_draw" s__law_draw ["bag", "many"] := ⟨_, _, F10, PySem.W.mg_of X G a10, F10.binds (ps := ["bag", "many"]) fun _ _ _ _ _ _ us hl => by obtain ⟨_, _, rfl⟩ := len_2 hl; rfl⟩
  have F11 := fun_mk (st := s__law_number) l11 c11 k11
  have T__law_number : TopFn K mg "_law_number" s__law_number ["bag"] := ⟨_, _, F11, PySem.W.mg_of X G a11, F11.binds (ps := ["bag"]) fun _ _ _ _ _ _ us hl => by obtain ⟨_, rfl⟩ := len_1 hl; rfl⟩
  have F12 := fun_mk (st := s__law_letters) l12 c12 k12
  have T__law_letters : TopFn K mg "_law_letters" s__law_letters [] := ⟨_, _, F12, PySem.W.mg_of X G a12, F12.binds (ps := []) fun _ _ _ _ _ _ us hl => by obtain rfl := len_0 hl; rfl⟩
  have F13 := fun_mk (st := s__law_part) l13 c13 k13
  have T__law_part : TopFn K mg "_law_part" s__law_part ["bag", "letter", "boxes", "many", "signs"] := ⟨_, _, F13, PySem.W.mg_of X G a13, F13.binds (ps := ["bag", "letter", "boxes", "many", "signs"]) fun _ _ _ _ _ _ us hl => by obtain ⟨_, _, _, _, _, rfl⟩ := len_5 hl; rfl⟩
  have F14 := fun_mk (st := s__law_row) l14 c14 k14
  have T__law_row : TopFn K mg "_law_row" s__law_row ["bag", "word", "boxes", "many", "signs"] := ⟨_, _, F14, PySem.W.mg_of X G a14, F14.binds (ps := ["bag", "word", "boxes", "many", "signs"]) fun _ _ _ _ _ _ us hl => by obtain ⟨_, _, _, _, _, rfl⟩ := len_5 hl; rfl⟩
  have F15 := fun_mk (st := s__law_rows) l15 c15 k15
  have T__law_rows : TopFn K mg "_law_rows" s__law_rows ["bag", "boxes", "many", "signs"] := ⟨_, _, F15, PySem.W.mg_of X G a15, F15.binds (ps := ["bag", "boxes", "many", "signs"]) fun _ _ _ _ _ _ us hl => by obtain ⟨_, _, _, _, rfl⟩ := len_4 hl; rfl⟩
  have F16 := fun_mk (st := s__law_signs) l16 c16 k16
  have T__law_signs : TopFn K mg "_law_signs" s__law_signs ["bag", "many"] := ⟨_, _, F16, PySem.W.mg_of X G a16, F16.binds (ps := ["bag", "many"]) fun _ _ _ _ _ _ us hl => by obtain ⟨_, _, rfl⟩ := len_2 hl; rfl⟩
  have F17 := fun_mk (st := s__law_program) l17 c17 k17
  have T__law_program : TopFn K mg "_law_program" s__law_program ["bag"] := ⟨_, _, F17, PySem.W.mg_of X G a17, F17.binds (ps := ["bag"]) fun _ _ _ _ _ _ us hl => by obtain ⟨_, rfl⟩ := len_1 hl; rfl⟩
  have F18 := fun_mk (st := s__law_written) l18 c18 k18
  have T__law_written : TopFn K mg "_law_written" s__law_written ["program"] := ⟨_, _, F18, PySem.W.mg_of X G a18, F18.binds (ps := ["program"]) fun _ _ _ _ _ _ us hl => by obtain ⟨_, rfl⟩ := len_1 hl; rfl⟩
  have F19 := fun_mk (st := s__law_any_sign) l19 c19 k19
  have T__law_any_sign : TopFn K mg "_law_any_sign" s__law_any_sign ["bag"] := ⟨_, _, F19, PySem.W.mg_of X G a19, F19.binds (ps := ["bag"]) fun _ _ _ _ _ _ us hl => by obtain ⟨_, rfl⟩ := len_1 hl; rfl⟩
  have F20 := fun_mk (st := s__law_run) l20 c20 k20
  have T__law_run : TopFn K mg "_law_run" s__law_run ["bag"] := ⟨_, _, F20, PySem.W.mg_of X G a20, F20.binds (ps := ["bag"]) fun _ _ _ _ _ _ us hl => by obtain ⟨_, rfl⟩ := len_1 hl; rfl⟩
  have F21 := fun_mk (st := s__law_bent_text) l21 c21 k21
  have T__law_bent_text : TopFn K mg "_law_bent_text" s__law_bent_text ["text", "pick", "bag"] := ⟨_, _, F21, PySem.W.mg_of X G a21, F21.binds (ps := ["text", "pick", "bag"]) fun _ _ _ _ _ _ us hl => by obtain ⟨_, _, _, rfl⟩ := len_3 hl; rfl⟩
  have F22 := fun_mk (st := s__law_part_good) l22 c22 k22
  have T__law_part_good : TopFn K mg "_law_part_good" s__law_part_good ["program", "one", "letter", "part"] := ⟨_, _, F22, PySem.W.mg_of X G a22, F22.binds (ps := ["program", "one", "letter", "part"]) fun _ _ _ _ _ _ us hl => by obtain ⟨_, _, _, _, rfl⟩ := len_4 hl; rfl⟩
  have F23 := fun_mk (st := s__law_row_good) l23 c23 k23
  have T__law_row_good : TopFn K mg "_law_row_good" s__law_row_good ["program", "one", "row"] := ⟨_, _, F23, PySem.W.mg_of X G a23, F23.binds (ps := ["program", "one", "row"]) fun _ _ _ _ _ _ us hl => by obtain ⟨_, _, _, rfl⟩ := len_3 hl; rfl⟩
  have F24 := fun_mk (st := s__law_formed) l24 c24 k24
  have T__law_formed : TopFn K mg "_law_formed" s__law_formed ["program"] := ⟨_, _, F24, PySem.W.mg_of X G a24, F24.binds (ps := ["program"]) fun _ _ _ _ _ _ us hl => by obtain ⟨_, rfl⟩ := len_1 hl; rfl⟩
  have F25 := fun_mk (st := s__law_read) l25 c25 k25
  have T__law_read : TopFn K mg "_law_read" s__law_read ["text"] := ⟨_, _, F25, PySem.W.mg_of X G a25, F25.binds (ps := ["text"]) fun _ _ _ _ _ _ us hl => by obtain ⟨_, rfl⟩ := len_1 hl; rfl⟩
  have F26 := fun_mk (st := s__law_copy) l26 c26 k26
  have T__law_copy : TopFn K mg "_law_copy" s__law_copy ["program"] := ⟨_, _, F26, PySem.W.mg_of X G a26, F26.binds (ps := ["program"]) fun _ _ _ _ _ _ us hl => by obtain ⟨_, rfl⟩ := len_1 hl; rfl⟩
  have F27 := fun_mk (st := s__law_alike) l27 c27 k27
  have T__law_alike : TopFn K mg "_law_alike" s__law_alike ["found", "due"] := ⟨_, _, F27, PySem.W.mg_of X G a27, F27.binds (ps := ["found", "due"]) fun _ _ _ _ _ _ us hl => by obtain ⟨_, _, rfl⟩ := len_2 hl; rfl⟩
  have F28 := fun_mk (st := s__law_turned) l28 c28 k28
  have T__law_turned : TopFn K mg "_law_turned" s__law_turned ["text", "pick"] := ⟨_, _, F28, PySem.W.mg_of X G a28, F28.binds (ps := ["text", "pick"]) fun _ _ _ _ _ _ us hl => by obtain ⟨_, _, rfl⟩ := len_2 hl; rfl⟩
  have F29 := fun_mk (st := s_law) l29 c29 k29
  have e := hfa.symm.trans (PySem.W.mg_of X G a29)
  cases e
  refine ⟨PySem.W.fnOf "law" "law" (defArgs s_law) (defBody s_law) (defScope s_law) .none kV29 dc29 pm29 an29 cd29 ct29, fun s v => .of_eq rfl, fun base _ _ => ?_⟩
  exact law_fn (B := B) (HX := HX) (G := GG) (T_shown := T_shown) (T_shown_def := T_shown_def) (T_shown_row := T_shown_row) (T_numbers_of := T_numbers_of) (T_read := T_read) (T_read_head := T_read_head) (T_read_row := T_read_row) (T_read_call := T_read_call) (T_read_whole := T_read_whole) (T__law_bag := T__law_bag) (T__law_draw := T__law_draw) (T__law_number := T__law_number) (T__law_letters := T__law_letters) (T__law_part := T__law_part) (T__law_row := T__law_row) (T__law_rows := T__law_rows) (T__law_signs := T__law_signs) (T__law_program := T__law_program) (T__law_written := T__law_written) (T__law_any_sign := T__law_any_sign) (T__law_run := T__law_run) (T__law_bent_text := T__law_bent_text) (T__law_part_good := T__law_part_good) (T__law_row_good := T__law_row_good) (T__law_formed := T__law_formed) (T__law_read := T__law_read) (T__law_copy := T__law_copy) (T__law_alike := T__law_alike) (T__law_turned := T__law_turned) (T_law := F29)

end My
open PySem PySem.W PyProof.Rows
set_option maxRecDepth 100000 in
set_option maxHeartbeats 0 in
theorem PySem.Challenge.cw_midlanes_k16_whole_one_text_holds : PySem.Challenge.rw_midlanes_k16_whole_one_text.Holds := by
  w_on; o_law; k_head; (case hw => w_witness2)
  k_fill
  refine L2.walk_of (l := PySem.Challenge.rw_midlanes_k16_whole_one_text) (n := 63) (k := 14) (x := "script") (CX := fun _ => L2.CX0) (sp := fun w => L2.spLaw _) rfl (by decide) rfl ⟨rfl, by decide, by decide⟩ (fun w h Y => PySem.W.kIn_of Y) ?F (fun _ _ a ns hl _ hS => L2.spLaw_of hl hS) (fun _ _ _ _ _ z => z)
  case F =>
    intro w mg fa h KX G hmg
    refine' My.all_mk KX G hmg ?a0 ?l0 ?c0 ?k0 ?a1 ?l1 ?c1 ?k1 ?a2 ?l2 ?c2 ?k2 ?a3 ?l3 ?c3 ?k3 ?a4 ?l4 ?c4 ?k4 ?a5 ?l5 ?c5 ?k5 ?a6 ?l6 ?c6 ?k6 ?a7 ?l7 ?c7 ?k7 ?a8 ?l8 ?c8 ?k8 ?a9 ?l9 ?c9 ?k9 ?a10 ?l10 ?c10 ?k10 ?a11 ?l11 ?c11 ?k11 ?a12 ?l12 ?c12 ?k12 ?a13 ?l13 ?c13 ?k13 ?a14 ?l14 ?c14 ?k14 ?a15 ?l15 ?c15 ?k15 ?a16 ?l16 ?c16 ?k16 ?a17 ?l17 ?c17 ?k17 ?a18 ?l18 ?c18 ?k18 ?a19 ?l19 ?c19 ?k19 ?a20 ?l20 ?c20 ?k20 ?a21 ?l21 ?c21 ?k21 ?a22 ?l22 ?c22 ?k22 ?a23 ?l23 ?c23 ?k23 ?a24 ?l24 ?c24 ?k24 ?a25 ?l25 ?c25 ?k25 ?a26 ?l26 ?c26 ?k26 ?a27 ?l27 ?c27 ?k27 ?a28 ?l28 ?c28 ?k28 ?a29 ?l29 ?c29 ?k29 ?g_FIGURES ?g_MOST_FIGURES ?g_PARTS ?h_PARTS ?s_PARTS ?h_PARTS_0 ?h_PARTS_1 ?h_PARTS_2 ?h_PARTS_3 ?h_PARTS_4 ?h_PARTS_5 ?h_PARTS_6 ?h_PARTS_7 ?h_PARTS_8 ?h_PARTS_9 ?h_PARTS_10 ?h_PARTS_11 ?e_NoText ?e_LaneError ?e_NotFormed ?e_Faulty ?e_exc ?e_x ?e_ga ?e_gh ?e_fc ?e_sg ?e_tk ?e_mo ?e_mb ?e_kc ?e_kV ?e_kN ?e_kF ?e_nN ?e_nF ?z_ValueError ?z_abs ?z_all ?z_bool ?z_int ?z_isinstance ?z_len ?z_list ?z_min ?z_range ?z_str ?z_tuple
    (case a0 => k_is)
    (case l0 => k_is)
    (case c0 => k_is)
    (case k0 => k_is)
    (case a1 => k_is)
    (case l1 => k_is)
    (case c1 => k_is)
    (case k1 => k_is)
    (case a2 => k_is)
    (case l2 => k_is)
    (case c2 => k_is)
    (case k2 => k_is)
    (case a3 => k_is)
    (case l3 => k_is)
    (case c3 => k_is)
    (case k3 => k_is)
    (case a4 => k_is)
    (case l4 => k_is)
    (case c4 => k_is)
    (case k4 => k_is)
    (case a5 => k_is)
    (case l5 => k_is)
    (case c5 => k_is)
    (case k5 => k_is)
    (case a6 => k_is)
    (case l6 => k_is)
    (case c6 => k_is)
    (case k6 => k_is)
    (case a7 => k_is)
    (case l7 => k_is)
    (case c7 => k_is)
    (case k7 => k_is)
    (case a8 => k_is)
    (case l8 => k_is)
    (case c8 => k_is)
    (case k8 => k_is)
    (case a9 => k_is)
    (case l9 => k_is)
    (case c9 => k_is)
    (case k9 => k_is)
    (case a10 => k_is)
    (case l10 => k_is)
    (case c10 => k_is)
    (case k10 => k_is)
    (case a11 => k_is)
    (case l11 => k_is)
    (case c11 => k_is)
    (case k11 => k_is)
    (case a12 => k_is)
    (case l12 => k_is)
    (case c12 => k_is)
    (case k12 => k_is)
    (case a13 => k_is)
    (case l13 => k_is)
    (case c13 => k_is)
    (case k13 => k_is)
    (case a14 => k_is)
    (case l14 => k_is)
    (case c14 => k_is)
    (case k14 => k_is)
    (case a15 => k_is)
    (case l15 => k_is)
    (case c15 => k_is)
    (case k15 => k_is)
    (case a16 => k_is)
    (case l16 => k_is)
    (case c16 => k_is)
    (case k16 => k_is)
    (case a17 => k_is)
    (case l17 => k_is)
    (case c17 => k_is)
    (case k17 => k_is)
    (case a18 => k_is)
    (case l18 => k_is)
    (case c18 => k_is)
    (case k18 => k_is)
    (case a19 => k_is)
    (case l19 => k_is)
    (case c19 => k_is)
    (case k19 => k_is)
    (case a20 => k_is)
    (case l20 => k_is)
    (case c20 => k_is)
    (case k20 => k_is)
    (case a21 => k_is)
    (case l21 => k_is)
    (case c21 => k_is)
    (case k21 => k_is)
    (case a22 => k_is)
    (case l22 => k_is)
    (case c22 => k_is)
    (case k22 => k_is)
    (case a23 => k_is)
    (case l23 => k_is)
    (case c23 => k_is)
    (case k23 => k_is)
    (case a24 => k_is)
    (case l24 => k_is)
    (case c24 => k_is)
    (case k24 => k_is)
    (case a25 => k_is)
    (case l25 => k_is)
    (case c25 => k_is)
    (case k25 => k_is)
    (case a26 => k_is)
    (case l26 => k_is)
    (case c26 => k_is)
    (case k26 => k_is)
    (case a27 => k_is)
    (case l27 => k_is)
    (case c27 => k_is)
    (case k27 => k_is)
    (case a28 => k_is)
    (case l28 => k_is)
    (case c28 => k_is)
    (case k28 => k_is)
    (case a29 => k_is)
    (case l29 => k_is)
    (case c29 => k_is)
    (case k29 => k_is)
    (case g_FIGURES => k_is)
    (case g_MOST_FIGURES => k_is)
    (case g_PARTS => k_is)
    (case h_PARTS => k_is)
    (case s_PARTS => first | rfl | decide)
    (case h_PARTS_0 => k_is)
    (case h_PARTS_1 => k_is)
    (case h_PARTS_2 => k_is)
    (case h_PARTS_3 => k_is)
    (case h_PARTS_4 => k_is)
    (case h_PARTS_5 => k_is)
    (case h_PARTS_6 => k_is)
    (case h_PARTS_7 => k_is)
    (case h_PARTS_8 => k_is)
    (case h_PARTS_9 => k_is)
    (case h_PARTS_10 => k_is)
    (case h_PARTS_11 => k_is)
    (case e_NoText => first | k_is | rfl)
    (case e_LaneError => first | k_is | rfl)
    (case e_NotFormed => first | k_is | rfl)
    (case e_Faulty => first | k_is | rfl)
    (case e_exc => (unfold L2.bmVE; k_exc))
    (case e_x => first | k_is | rfl)
    (case e_ga => first | k_is | rfl)
    (case e_gh => first | k_is | rfl)
    (case e_fc => first | k_is | rfl)
    (case e_sg => first | k_is | rfl)
    (case e_tk => first | k_is | rfl)
    (case e_mo => first | k_is | rfl)
    (case e_mb => first | k_is | rfl)
    (case e_kc => first | k_is | rfl)
    (case e_kV => first | k_is | rfl)
    (case e_kN => first | k_is | rfl)
    (case e_kF => first | k_is | rfl)
    (case e_nN => first | k_is | rfl)
    (case e_nF => first | k_is | rfl)
    (case z_ValueError => k_is)
    (case z_abs => k_is)
    (case z_all => k_is)
    (case z_bool => k_is)
    (case z_int => k_is)
    (case z_isinstance => k_is)
    (case z_len => k_is)
    (case z_list => k_is)
    (case z_min => k_is)
    (case z_range => k_is)
    (case z_str => k_is)
    (case z_tuple => k_is)

