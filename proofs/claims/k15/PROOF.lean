import PyProof.Rows.All
import Wide.All
import OpenK.AllK
import Wide.FinOn
import Lean
import PyProof.EqAt
import PyProof.EqKinds
import PyProof.TupleCall
import PyProof.NeKinds
import KE.KDictSum
import PyProof.Rows.SortRuns
import PySem.SetOps
import PyProof.Rows.SetFrom
import PyProof.DictWalks
import PyProof.FactsAll.set_1
import PyProof.FactsAll.set_2
import PyProof.MakeMany
import PyProof.CollectWalk
import PyProof.Rows.SortShell
import PyProof.StrWalks
import PyProof.StrLoop
import PyProof.SliceStr2
import PyProof.StrBlockI
import PyProof.Rows.StrWeight2
import PyProof.StrOps2
import PyProof.ConsumeWalk
import PyProof.ZipIter
import KE.KIntText
import PyProof.StrBlockG
import PyProof.StrLawsTight
import PyProof.StrLawsChain
import KE.IntTextLaws
import PyProof.Rows.CatFin
import OpenK.KOwn
import KE.KTryMore
import KE.KIsNot
import PyProof.Rows.TopTwo
import PyProof.NsDelKeeps
import PyProof.RulesAs
import PyProof.Rows.Catch
import PyProof.ExcAttrAll.ValueError
import PyProof.TupleIter
import PyProof.Draws
import KE.KUnpack
import PyProof.StrCalls6
import PyProof.StrCalls
import PySem.Challenge.RW_midlanes_k15_texts_that_are_none
set_option Elab.async false
set_option linter.all false
set_option maxRecDepth 100000
set_option maxHeartbeats 4000000
section
namespace L2
inductive Ex2 {α0 α1 : Type} (p : α0 -> α1 -> Prop) : Prop
 | mk (a : α0) (b : α1) (h : p a b) : Ex2 p
inductive Ex3 {α0 α1 α2 : Type} (p : α0 -> α1 -> α2 -> Prop) : Prop
 | mk (a : α0) (b : α1) (c : α2) (h : p a b c) : Ex3 p
inductive Ex4 {α0 α1 α2 α3 : Type} (p : α0 -> α1 -> α2 -> α3 -> Prop) : Prop
 | mk (a : α0) (b : α1) (c : α2) (d : α3) (h : p a b c d) : Ex4 p
inductive Ex5 {α0 α1 α2 α3 α4 : Type} (p : α0 -> α1 -> α2 -> α3 -> α4 -> Prop) : Prop
 | mk (a : α0) (b : α1) (c : α2) (d : α3) (e : α4) (h : p a b c d e) : Ex5 p
inductive Ex6 {α0 α1 α2 α3 α4 α5 : Type} (p : α0 -> α1 -> α2 -> α3 -> α4 -> α5 -> Prop) : Prop
 | mk (a : α0) (b : α1) (c : α2) (d : α3) (e : α4) (f : α5) (h : p a b c d e f) : Ex6 p
inductive Ex7 {α0 α1 α2 α3 α4 α5 α6 : Type} (p : α0 -> α1 -> α2 -> α3 -> α4 -> α5 -> α6 -> Prop) : Prop
 | mk (a : α0) (b : α1) (c : α2) (d : α3) (e : α4) (f : α5) (g : α6) (h : p a b c d e f g) : Ex7 p
inductive An3 (a b c : Prop) : Prop
 | mk (h0 : a) (h1 : b) (h2 : c) : An3 a b c
inductive An4 (a b c d : Prop) : Prop
 | mk (h0 : a) (h1 : b) (h2 : c) (h3 : d) : An4 a b c d
inductive An5 (a b c d e : Prop) : Prop
 | mk (h0 : a) (h1 : b) (h2 : c) (h3 : d) (h4 : e) : An5 a b c d e
inductive An6 (a b c d e f : Prop) : Prop
 | mk (h0 : a) (h1 : b) (h2 : c) (h3 : d) (h4 : e) (h5 : f) : An6 a b c d e f
inductive An7 (a b c d e f g : Prop) : Prop
 | mk (h0 : a) (h1 : b) (h2 : c) (h3 : d) (h4 : e) (h5 : f) (h6 : g) : An7 a b c d e f g
inductive An8 (a b c d e f g h : Prop) : Prop
 | mk (h0 : a) (h1 : b) (h2 : c) (h3 : d) (h4 : e) (h5 : f) (h6 : g) (h7 : h) : An8 a b c d e f g h
inductive An9 (a b c d e f g h i : Prop) : Prop
 | mk (h0 : a) (h1 : b) (h2 : c) (h3 : d) (h4 : e) (h5 : f) (h6 : g) (h7 : h) (h8 : i) : An9 a b c d e f g h i
end L2
end
section
namespace L2
open PySem PySem.Spec PyProof.Rows
noncomputable abbrev Key := Sum Int Str
noncomputable def ZgP : Key -> Value -> Bool
 | .inl k, v => Value.isInt k v
 | .inr x, v => Value.isStrOf x v
noncomputable def keyH (w : World) : Key -> Int
 | .inl k => hashInt k
 | .inr x => hashStr w x
theorem Zbz : ∀ {k : Key} {v : Value}, ZgP k v = true -> (∃ i t, k = Sum.inl i /\ v = Value.int i t) \/ (∃ x t, k = Sum.inr x /\ v = Value.str x t)
  | .inl i, v, h => by
    obtain ⟨t, e⟩ := Value.isInt_shape (k := i) (v := v) h
    exact .inl ⟨i, t, rfl, e⟩
  | .inr x, v, h => by
    obtain ⟨t, e⟩ := Value.isStrOf_shape (x := x) (v := v) h
    exact .inr ⟨x, t, rfl, e⟩
theorem Zjk (i : Int) (t : Tok) : ZgP (.inl i) (.int i t) = true := by simp [ZgP, Value.isInt]
theorem Zjj (x : Str) (t : Tok) : ZgP (.inr x) (.str x t) = true := by simp [ZgP, Value.isStrOf]
theorem key_ll (a b : Int) : decide ((Sum.inl a : Key) = Sum.inl b) = (a == b) := by
 by_cases e : a = b
 ·subst e; simp
 ·have h : ¬ (Sum.inl a : Key) = Sum.inl b := fun q => e (Sum.inl.inj q)
  rw [decide_eq_false h]
  exact (beq_eq_false_iff_ne.mpr e).symm
theorem key_rr (a b : Str) : decide ((Sum.inr a : Key) = Sum.inr b) = decide (a = b) := by
 by_cases e : a = b
 ·subst e; simp
 ·have h : ¬ (Sum.inr a : Key) = Sum.inr b := fun q => e (Sum.inr.inj q)
  rw [decide_eq_false h, decide_eq_false e]
theorem key_lr (a : Int) (b : Str) : decide ((Sum.inl a : Key) = Sum.inr b) = false := decide_eq_false (fun q => nomatch q)
theorem key_rl (a : Str) (b : Int) : decide ((Sum.inr a : Key) = Sum.inl b) = false := decide_eq_false (fun q => nomatch q)
noncomputable def Zby (prog : Program) (w : World) : PySem.KeyKind prog w Key where
 is := ZgP
 hash := keyH w
 inj := fun v a b ha hb => by
  rcases Zbz ha with ⟨i, t, rfl, rfl⟩ | ⟨x, t, rfl, rfl⟩
  ·rcases Zbz hb with ⟨j, u, rfl, e⟩ | ⟨y, u, rfl, e⟩
   ·injection e with e1 _; rw [e1]
   ·exact nomatch e
  ·rcases Zbz hb with ⟨j, u, rfl, e⟩ | ⟨y, u, rfl, e⟩
   ·exact nomatch e
   ·injection e with e1 _; rw [e1]
 byValue := fun k v h => by
  rcases Zbz h with ⟨i, t, rfl, rfl⟩ | ⟨x, t, rfl, rfl⟩ <;> rfl
 pyHash := fun hv h => by
  rcases Zbz hv with ⟨i, t, rfl, rfl⟩ | ⟨x, t, rfl, rfl⟩
  ·exact wpAny_pyHash_int h
  ·exact wpAny_pyHash_str h
 eqBool := fun hu hv h => by
  rcases Zbz hu with ⟨i, t, rfl, rfl⟩ | ⟨x, t, rfl, rfl⟩
  ·rcases Zbz hv with ⟨j, u, rfl, rfl⟩ | ⟨y, u, rfl, rfl⟩
   ·rw [key_ll] at h; exact wpAny_eqBool_int h
   ·rw [key_lr] at h; exact SeqAt.EqAt.int_str i t y u _ _ _ _ h
  ·rcases Zbz hv with ⟨j, u, rfl, rfl⟩ | ⟨y, u, rfl, rfl⟩
   ·rw [key_rl] at h; exact SeqAt.EqAt.str_int x t j u _ _ _ _ h
   ·rw [key_rr] at h; exact wpAny_eqBool_str h
 «strs» := fun k x t v h => by
  rcases Zbz h with ⟨i, u, rfl, e⟩ | ⟨y, u, rfl, e⟩
  ·exact nomatch e
  ·injection e with e1 _
   subst e1
   cases v <;> rfl
theorem ZgL (prog : Program) (w : World) (i : Int) (t : Tok) : (Zby prog w).is (.inl i) (.int i t) = true := Zjk i t
theorem Zdr (prog : Program) (w : World) (x : Str) (t : Tok) : (Zby prog w).is (.inr x) (.str x t) = true := Zjj x t
end L2
namespace L2
open PySem PySem.Spec PyProof.Rows
inductive V where
 | non | bl (b : Bool) | int (i : Int) | str (x : Str) | byt (b : Array UInt8) | flt (b : UInt64) | ref (a : Addr) | ty (n : String)
 deriving DecidableEq
noncomputable def RelV : V -> Value -> Prop
 | .non, u => u = Value.none
 | .bl b, u => u = Value.bool b
 | .int i, u => ∃ t, u = Value.int i t
 | .str x, u => ∃ t, u = Value.str x t
 | .byt b, u => ∃ t, u = Value.bytes b t
 | .flt b, u => ∃ t, u = Value.float b t
 | .ref a, u => u = Value.ref a
 | .ty n, u => u = Value.type n
noncomputable abbrev Vals : List V -> List Value -> Prop := Paired RelV
theorem Vals.length {xs : List V} {us : List Value} (r : Vals xs us) : xs.length = us.length := Paired.length r
theorem Vals.get : ∀ {xs : List V} {us : List Value} {i : Nat} {x : V}, Vals xs us -> xs[i]? = some x -> ∃ u, us[i]? = some u /\ RelV x u
  | _, _, _, _, .nil, e => by simp at e
  | _, _, 0, _, .cons r _, e => by simp at e; subst e; exact ⟨_, rfl, r⟩
  | _, _, i + 1, x, .cons _ t, e => by
    obtain ⟨u, h1, h2⟩ := Vals.get (i := i) (x := x) t (by simpa using e)
    exact ⟨u, by simpa using h1, h2⟩
theorem Vals.set {x : V} {u : Value} (r : RelV x u) : ∀ {xs : List V} {us : List Value} (i : Nat), Vals xs us -> Vals (xs.set i x) (us.set i u)
 | _, _, _, .nil => .nil
 | _, _, 0, .cons _ t => .cons r t
 | _, _, i + 1, .cons q t => .cons q (Vals.set r i t)
theorem Vals.append : ∀ {xs ys : List V} {us ws : List Value}, Vals xs us -> Vals ys ws -> Vals (xs ++ ys) (us ++ ws)
 | _, _, _, _, .nil, s => s
 | _, _, _, _, .cons r t, s => .cons r (Vals.append t s)
theorem Vals.take : ∀ {xs : List V} {us : List Value} (n : Nat), Vals xs us -> Vals (xs.take n) (us.take n)
 | _, _, 0, _ => .nil
 | _, _, _ + 1, .nil => .nil
 | _, _, n + 1, .cons r t => .cons r (Vals.take n t)
theorem Vals.drop : ∀ {xs : List V} {us : List Value} (n : Nat), Vals xs us -> Vals (xs.drop n) (us.drop n)
 | _, _, 0, r => r
 | _, _, _ + 1, .nil => .nil
 | _, _, n + 1, .cons _ t => Vals.drop n t
noncomputable def RelO : Option V -> Option Value -> Prop
 | some v, some u => RelV v u
 | none, none => True
 | _, _ => False
noncomputable def KV {κ : Type} : List (κ × V) -> List (κ × Value) -> Prop := Paired fun (p : κ × V) (q : κ × Value) => p.1 = q.1 /\ RelV p.2 q.2
noncomputable def kV : Key -> V
 | .inl i => .int i
 | .inr x => .str x
inductive HO where
 | lst (xs : List V)
 | tup (xs : List V)
 | dK (kvs : List (Key × V)) | dT (kvs : List (List Key × V))
 | set (S : Int -> Bool) (n : Nat)
 | ins (C dx : Addr) (fs : List (Str × V))
 | own (x : Addr)
 | xd (fs : List (Str × V))
 | met (f x : Addr)
 | rng (lo hi : Int)
 | frz (o : Obj) (u : HO)
 | tbl (ps : Array Value)
 | ext (φ : Heap -> Prop)
noncomputable abbrev Hp := Addr -> Option HO
noncomputable def upd (H : Hp) (a : Addr) (o : HO) : Hp := fun b => if b = a then some o else H b
theorem Zae {H : Hp} {a : Addr} {o : HO} : upd H a o a = some o := by unfold upd; rw [if_pos rfl]
theorem Zaw {H : Hp} {a b : Addr} {o : HO} (h : b ≠ a) : upd H a o b = H b := by unfold upd; rw [if_neg h]
theorem Zh9 {H : Hp} {a : Addr} {o u : HO} : upd (upd H a o) a u = upd H a u := by
 funext b; unfold upd; split <;> rfl
theorem Zmw {H : Hp} {a b : Addr} {o u : HO} (h : H a = some o) (h' : H b = some u) (d : o ≠ u) : a ≠ b := by
 intro e; subst e; rw [h] at h'; exact d (Option.some.inj h')
theorem Zbn {H : Hp} {a b : Addr} {o : HO} (h : H a = some o) (h' : H b = none) : a ≠ b := by
 intro e; subst e; rw [h] at h'; cases h'
section
variable (P : Program) (w : World)
noncomputable def ObjOk (H : Hp) (h : Heap) (a : Addr) : HO -> Prop
 | .lst xs => xs.length <= sizeLine /\ ∃ (its : List Value) (n : Nat), Vals xs its /\ h.get? a = some { cls := .type "list", data := .seq its.toArray n }
 | .tup xs => xs.length <= sizeLine /\ ∃ its : List Value, Vals xs its /\ IsTup h a its.toArray
 | .dK kvs => kvs.length <= sizeLine /\ (a == sysModules) = false /\ ∃ vs, KV kvs vs /\ h.DictOf (Zby P w) a vs
 | .dT kvs => kvs.length <= sizeLine /\ (a == sysModules) = false /\ ∃ xs : List (List Key × Addr × Value),
   Paired (fun (p : List Key × V) (q : List Key × Addr × Value) => p.1 = q.1 /\ H q.2.1 = some (.tup (p.1.map kV)) /\ RelV p.2 q.2.2) kvs xs /\
   ∃ o es ep, h.get? a = some o /\ o.ExactDict /\ o.data = .dict es ep /\ es.toList = xs.map (entryOfKey (tupleKind (Zby P w))) /\ (xs.map (·.1)).Nodup
 | .set S n => h.SetOf (intKind P w) a S n
 | .ins C dx fs => H dx = some (.own a) /\ fs.length <= 1000 /\ dx ≠ a /\ h.get? a = some (PySem.W.instObj C dx) /\
   ∃ mA, h.Ns1 dx mA /\ (∀ f, RelO (fs.lookup f) (mA f)) /\ PySem.Within mA (fs.map (·.1))
 | .own _ => ∃ o, h.get? a = some o
 | .xd fs => ∃ mA, h.Ns1 a mA /\ ∀ f, RelO (fs.lookup f) (mA f)
 | .rng lo hi => ∃ t u v, h.get? a = some { cls := .type "range", data := .fields #[.int lo t, .int hi u, .int 1 v] }
 | .frz o u => h.get? a = some o /\ ObjOk H h a u
 | .tbl ps => h.get? a = some { cls := .none, data := .fields ps }
 | .met f x => h.get? a = some (PySem.W.methodObj (.ref f) (.ref x))
 | .ext φ => φ h /\ (∃ o, h.get? a = some o) /\ ∀ h1 h2 : Heap, φ h1 -> (∀ o, h1.get? a = some o -> h2.get? a = some o) -> φ h2
noncomputable def HOk (H : Hp) (h : Heap) : Prop := ∀ a o, H a = some o -> ObjOk P w H h a o
end
section
variable {P : Program} {w : World} {H H' : Hp} {h h' : Heap} {a : Addr} {o : HO}
theorem ObjOk.lt (x : ObjOk P w H h a o) : a < h.objs.size := by
 cases o with
 | lst xs => obtain ⟨_, _, _, _, e⟩ := x; exact Heap.lt_size e
 | tup xs => obtain ⟨_, _, _, p⟩ := x; exact p.lt
 | dK kvs => obtain ⟨_, _, _, _, o, _, _, e, _⟩ := x; exact Heap.lt_size e
 | dT kvs => obtain ⟨_, _, _, _, o, _, _, e, _⟩ := x; exact Heap.lt_size e
 | set S n => obtain ⟨o, _, _, _, e, _⟩ := x; exact Heap.lt_size e
 | ins C dx fs => obtain ⟨_, _, _, e, _⟩ := x; exact Heap.lt_size e
 | own y => obtain ⟨_, e⟩ := x; exact Heap.lt_size e
 | xd fs => obtain ⟨_, ⟨_, _, _, e, _⟩, _⟩ := x; exact Heap.lt_size e
 | rng lo hi => obtain ⟨_, _, _, e⟩ := x; exact Heap.lt_size e
 | frz ob u => obtain ⟨e, _⟩ := x; exact Heap.lt_size e
 | tbl ps => exact Heap.lt_size (show h.get? a = some _ from x)
 | met f y => exact Heap.lt_size (show h.get? a = some _ from x)
 | ext φ => obtain ⟨_, ⟨_, e⟩, _⟩ := x; exact Heap.lt_size e
theorem Paired.mapP {α β : Type} {F G : α -> β -> Prop} : ∀ {l₁ : List α} {l₂ : List β}, Paired F l₁ l₂ -> (∀ a b, F a b -> G a b) -> Paired G l₁ l₂
 | _, _, .nil, _ => .nil
 | _, _, .cons r t, f => .cons (f _ _ r) (Paired.mapP t f)
theorem ObjOk.stay (x : ObjOk P w H h a o) (k : ∀ b u, (b = a \/ H b = some (.own a)) -> h.get? b = some u -> h'.get? b = some u)
    (ho : ∀ b, H b = some (.own a) -> H' b = some (.own a)) (ht : ∀ b xs, H b = some (.tup xs) -> H' b = some (.tup xs)) : ObjOk P w H' h' a o := by
  induction o with
  | lst xs => obtain ⟨z, its, n, r, e⟩ := x; exact ⟨z, its, n, r, k _ _ (.inl rfl) e⟩
  | tup xs => obtain ⟨z, its, r, ob, e, c⟩ := x; exact ⟨z, its, r, ob, k _ _ (.inl rfl) e, c⟩
  | dK kvs => obtain ⟨z, y, vs, r, ob, es, ep, e, c⟩ := x; exact ⟨z, y, vs, r, ob, es, ep, k _ _ (.inl rfl) e, c⟩
  | dT kvs =>
    obtain ⟨z, y, xs, r, ob, es, ep, e, c⟩ := x
    exact ⟨z, y, xs, Paired.mapP r fun p q z => ⟨z.1, ht _ _ z.2.1, z.2.2⟩, ob, es, ep, k _ _ (.inl rfl) e, c⟩
  | set S n => obtain ⟨ob, es, ep, t, e, c⟩ := x; exact ⟨ob, es, ep, t, k _ _ (.inl rfl) e, c⟩
  | ins C dx fs =>
    obtain ⟨d, z, ne, e, mA, ⟨od, es, ep, e2, c⟩, r⟩ := x
    exact ⟨ho _ d, z, ne, k _ _ (.inl rfl) e, mA, ⟨od, es, ep, k _ _ (.inr d) e2, c⟩, r⟩
  | own y => obtain ⟨ob, e⟩ := x; exact ⟨ob, k _ _ (.inl rfl) e⟩
  | xd fs => obtain ⟨mA, ⟨od, es, ep, e, c⟩, r⟩ := x; exact ⟨mA, ⟨od, es, ep, k _ _ (.inl rfl) e, c⟩, r⟩
  | rng lo hi => obtain ⟨t, u, v, e⟩ := x; exact ⟨t, u, v, k _ _ (.inl rfl) e⟩
  | frz ob u ih => obtain ⟨e, q⟩ := x; exact ⟨k _ _ (.inl rfl) e, ih q⟩
  | tbl ps =>
    have e : h.get? a = some { cls := .none, data := .fields ps } := x
    show h'.get? a = some { cls := .none, data := .fields ps }
    exact k a _ (.inl rfl) e
  | met f y =>
    have e : h.get? a = some (PySem.W.methodObj (.ref f) (.ref y)) := x
    show h'.get? a = some (PySem.W.methodObj (.ref f) (.ref y))
    exact k a _ (.inl rfl) e
  | ext φ => obtain ⟨p, ⟨o, e⟩, st⟩ := x; exact ⟨st _ _ p fun o q => k _ _ (.inl rfl) q, ⟨o, k _ _ (.inl rfl) e⟩, st⟩
theorem HOk.lt (x : HOk P w H h) (e : H a = some o) : a < h.objs.size := (x a o e).lt
theorem HOk.fresh (x : HOk P w H h) (e : h.objs.size <= a) : H a = none := by
 cases q : H a with
 | none => rfl
 | some u => exact absurd (Nat.lt_of_lt_of_le (x.lt q) e) (Nat.lt_irrefl _)
theorem HOk.kept (x : HOk P w H h) (k : ∀ b u, h.get? b = some u -> h'.get? b = some u) : HOk P w H h' := fun a o e =>
 (x a o e).stay (fun b u _ q => k b u q) (fun _ q => q) fun _ _ q => q
theorem HOk.laid (x : HOk P w H h) (k : ∀ b u, h.get? b = some u -> h'.get? b = some u) (hp : h.objs.size <= a) (new : ObjOk P w (upd H a o) h' a o) : HOk P w (upd H a o) h' := fun b u e => by
 have hn := x.fresh hp
 by_cases hb : b = a
 ·subst hb; rw [Zae] at e; cases e; exact new
 ·rw [Zaw hb] at e
  exact (x b u e).stay (fun c v _ q => k c v q) (fun c q => by rw [Zaw (Zbn q hn)]; exact q) fun c xs q => by rw [Zaw (Zbn q hn)]; exact q
end
noncomputable def Rd (H : Hp) (a : Addr) (u : HO) : Prop := H a = some u \/ ∃ o, H a = some (.frz o u)
theorem Rd.ok {P : Program} {w : World} {H : Hp} {h : Heap} {a : Addr} {u : HO} (r : Rd H a u) (x : HOk P w H h) : ObjOk P w H h a u := by
 rcases r with r | ⟨o, r⟩
 ·exact x a u r
 ·obtain ⟨_, q⟩ := x a _ r
  exact q
noncomputable def Mut : Option HO -> Prop
 | some (.lst _) => True
 | some (.dK _) => True
 | some (.dT _) => True
 | some (.set _ _) => True
 | some (.ins _ _ _) => True
 | some (.ext _) => True
 | _ => False
section
variable {P : Program} {w : World} {H : Hp} {h h' : Heap} {x e : Addr} {o' : HO}
theorem HOk.write (ok : HOk P w H h) (mu : Mut (H x)) (he : e = x \/ H e = some (.own x)) (k : ∀ b u, b ≠ e -> h.get? b = some u -> h'.get? b = some u) (heo : ∃ u, h'.get? e = some u)
  (new : ObjOk P w (upd H x o') h' x o') : HOk P w (upd H x o') h' := fun b u q => by
 have nown : ∀ c y, H c = some (.own y) -> c ≠ x := fun c y r z => by subst z; rw [r] at mu; exact mu
 have ntup : ∀ c xs, H c = some (.tup xs) -> c ≠ x := fun c xs r z => by subst z; rw [r] at mu; exact mu
 by_cases hb : b = x
 ·subst hb; rw [Zae] at q; cases q; exact new
 ·rw [Zaw hb] at q
  by_cases hbe : b = e
  ·have q' : H b = some (.own x) := by
    rcases he with z | z
    ·exact absurd (hbe.trans z) hb
    ·rw [hbe]; exact z
   rw [q] at q'; cases q'
   obtain ⟨v, hv⟩ := heo
   exact ⟨v, by rw [hbe]; exact hv⟩
  ·refine (ok b u q).stay (fun c v hc r => k c v ?_ r) (fun c r => by rw [Zaw (nown c b r)]; exact r) fun c xs r => by rw [Zaw (ntup c xs r)]; exact r
   rcases hc with rfl | hc
   ·exact hbe
   ·rintro rfl
    rcases he with z | z
    ·exact nown c b hc z
    ·rw [hc] at z; cases z; exact hb rfl
end
structure Un (fs ex : List Addr) (H H' : Hp) (h h' : Heap) : Prop where
 keep : ∀ b o, h.get? b = some o -> H b = none -> b ∉ fs -> b ∉ ex -> h'.get? b = some o
 slot : ∀ b o, h.get? b = some o -> H b = none -> b ∈ fs -> b ∉ ex -> ∃ sl, h'.get? b = some { o with slots := sl }
 free : ∀ b o, h.get? b = some o -> H b = none -> b ∉ ex -> H' b = none
 there : ∀ b o, h.get? b = some o -> b ∉ ex -> ∃ o', h'.get? b = some o'
 tups : ∀ b xs, H b = some (.tup xs) -> H' b = some (.tup xs)
 frzs : ∀ b o u, H b = some (.frz o u) -> H' b = some (.frz o u)
 tbls : ∀ b ps, H b = some (.tbl ps) -> ∃ more, H' b = some (.tbl (ps ++ more))
section
variable {fs fs' ex ex' : List Addr} {H H1 H2 : Hp} {h h1 h2 h' : Heap} {a x e : Addr} {o : HO}
theorem Un.any (u : Un fs ex H H1 h h1) {b : Addr} {ob : Obj} (q : h.get? b = some ob) (n : H b = none) (hx : b ∉ ex) : ∃ sl, h1.get? b = some { ob with slots := sl } := by
 by_cases hb : b ∈ fs
 ·exact u.slot b ob q n hb hx
 ·exact ⟨ob.slots, u.keep b ob q n hb hx⟩
theorem Un.kept (k : ∀ b u, h.get? b = some u -> h'.get? b = some u) : Un fs ex H H h h' :=
 ⟨fun b ob q _ _ _ => k b ob q, fun b ob q _ _ _ => ⟨ob.slots, k b ob q⟩, fun _ _ _ n _ => n, fun b ob q _ => ⟨ob, k b ob q⟩, fun _ _ q => q, fun _ _ _ q => q, fun _ ps q => ⟨#[], by rw [q]; simp⟩⟩
theorem Un.refl : Un fs ex H H h h := Un.kept fun _ _ q => q
theorem Un.laid (k : ∀ b u, h.get? b = some u -> h'.get? b = some u) (hp : h.objs.size <= a) (hn : H a = none) : Un fs ex H (upd H a o) h h' where
 keep := fun b u q _ _ _ => k b u q
 slot := fun b u q _ _ _ => ⟨u.slots, k b u q⟩
 free := fun b u q n _ => by rw [Zaw (Nat.ne_of_lt (Nat.lt_of_lt_of_le (Heap.lt_size q) hp))]; exact n
 there := fun b u q _ => ⟨u, k b u q⟩
 tups := fun b xs q => by rw [Zaw (Zbn q hn)]; exact q
 frzs := fun b u xs q => by rw [Zaw (Zbn q hn)]; exact q
 tbls := fun b ps q => ⟨#[], by rw [Zaw (Zbn q hn), q]; simp⟩
theorem Un.write (mu : Mut (H x)) (he : e = x \/ H e = some (.own x)) (k : ∀ b u, b ≠ e -> h.get? b = some u -> h'.get? b = some u) (heo : ∃ u, h'.get? e = some u) : Un fs ex H (upd H x o) h h' := by
 have hx : ∀ b, H b = none -> b ≠ x := fun b n z => by subst z; rw [n] at mu; exact mu
 have hb : ∀ b, H b = none -> b ≠ e := fun b n z => by
  subst z
  rcases he with r | r
  ·exact hx b n r
  ·rw [n] at r; cases r
 have hm : ∀ b u, H b = some u -> ¬ Mut (some u) -> b ≠ x := fun b u q nm z => by subst z; rw [q] at mu; exact nm mu
 refine ⟨fun b u q n _ _ => k b u (hb b n) q, fun b u q n _ _ => ⟨u.slots, k b u (hb b n) q⟩, fun b u q n _ => by rw [Zaw (hx b n)]; exact n, fun b u q _ => ?_,
  fun b xs q => by rw [Zaw (hm b _ q fun z => z)]; exact q, fun b u xs q => by rw [Zaw (hm b _ q fun z => z)]; exact q, fun b ps q => ⟨#[], by rw [Zaw (hm b _ q fun z => z), q]; simp⟩⟩
 by_cases hbe : b = e
 ·subst hbe; exact heo
 ·exact ⟨u, k b u hbe q⟩
end
noncomputable def trk (h : Heap) (H : Hp) : List Addr := (List.range h.objs.size).filter fun a => (H a).isSome
noncomputable def hidT (h : Heap) (H : Hp) : Heap := PySem.W.hideAll h (trk h H)
theorem Zjs (h : Heap) (H : Hp) : (hidT h H).objs.size = h.objs.size := PySem.W.hideAll_size _ _
theorem ZkQ {h : Heap} {H : Hp} {b : Addr} {o : Obj} (e : h.get? b = some o) (n : H b = none) : (hidT h H).get? b = some o :=
 PySem.W.hideAll_get _ e fun hm => by
  have q : (H b).isSome = true := (List.mem_filter.mp hm).2
  rw [n] at q; simp at q
theorem Zmv {h : Heap} {H : Hp} {b : Addr} {o : Obj} (e : (hidT h H).get? b = some o) : h.get? b = some o /\ H b = none := by
  have e' : h.get? b = some o := PySem.W.of_hideAll (trk h H) e
  refine ⟨e', ?_⟩
  cases q : H b with
  | none => rfl
  | some x =>
    have hm : b ∈ trk h H := List.mem_filter.mpr ⟨List.mem_range.mpr (Heap.lt_size e'), by simp [q]⟩
    have z : (hidT h H).get? b = none := PySem.W.hideAll_none (trk h H) hm
    rw [z] at e; cases e
noncomputable def ZmV (g h : Heap) (L : Addr) : List (Addr × Obj) := (List.range h.objs.size).filterMap fun a => if a = L \/ (g.get? a).isSome = true then none else (h.get? a).map fun o => (a, o)
noncomputable def rest (g h : Heap) (L d : Addr) : List (Addr × Obj) := (ZmV g h L).filter fun p => decide (p.1 ≠ d)
end L2
namespace L2
open PySem PySem.Spec PyProof.Rows
structure Mod (K : PySem.W.Frag) (mg : Str -> Option Value) (base : Heap) : Prop where
 kin : K.In base
 glob : base.Ns mainGlobals mg
 blt : ∃ mb, base.Ns builtinsNs mb /\ ∀ x : Str, x ≠ "__name__" -> mb x = bootBuiltins x
 nolimit : base.NoLimit
structure Cx where
 prog : Program
 w : World
 K : PySem.W.Frag
 mg : Str -> Option Value
 base : Heap
 A : Around
 N : List Str
 s₀ : Shared
 H₀ : Hp
 env : Env
 outer : List Env
 stack : List Env
 ex : List Addr
 fn : Str -> Bool
 calm : Bool
 pn : List (Addr × Obj)
 xe : Value -> Shared -> Prop
noncomputable def frs (l : List Env) : List Addr := l.filterMap (·.frame)
noncomputable abbrev Cx.fs (X : Cx) : List Addr := frs X.outer
noncomputable def Vis (sc : Scope) (x : Str) : Prop := sc.names.lookup x = some .local \/ sc.names.lookup x = some .cell \/ sc.names.lookup x = some .free
noncomputable def Loc (sc : Scope) (x : Str) : Prop := sc.names.lookup x = some .local \/ sc.names.lookup x = some .cell
noncomputable def Look (env : Env) (h : Heap) (m : Str -> Option Value) (x : Str) (u : Value) : Prop :=
 (env.kindOf x = some .local /\ m x = some u) \/ ((env.kindOf x = some .cell \/ env.kindOf x = some .free) /\ ∃ c, env.cells.lookup x = some c /\ h.IsCell c (some u))
structure Cx.Ok (X : Cx) : Prop where
 mod : Mod X.K X.mg X.base
 kind : X.env.scope.kind = .function
 glob : X.env.globals = mainGlobals
 blt : X.env.builtins = builtinsNs
 above : X.s₀.heap.objs.size <= X.env.locals
 inj : ∀ x y c, X.env.cells.lookup x = some c -> X.env.cells.lookup y = some c -> x = y
 has : ∀ x, (X.env.kindOf x = some .cell \/ X.env.kindOf x = some .free) -> ∃ c, X.env.cells.lookup x = some c
 cab : ∀ x c, X.fn x = true -> X.env.cells.lookup x = some c -> X.s₀.heap.objs.size <= c
 hd : X.calm = true -> X.A.handled = none
 frames : X.A.frames = some X.stack
 stk : X.stack = X.outer \/ (X.stack = X.env :: X.outer /\ X.env.frame = some X.env.locals)
 exf : ∀ b ∈ X.ex, b ≠ X.env.locals /\ ∀ x c, X.env.cells.lookup x = some c -> c ≠ b
 bs : ∀ b o, X.base.get? b = some o -> X.s₀.heap.get? b = some o /\ X.H₀ b = none
 bsz : X.base.objs.size <= X.s₀.heap.objs.size
 noex : ∀ b o, X.base.get? b = some o -> b ∉ X.ex
 exfs : ∀ b ∈ X.ex, b ∉ X.fs
 funs : X.s₀.heap.FunFrames X.base X.outer
 frf : ∀ b ∈ X.fs, X.H₀ b = none
structure Inv (X : Cx) (pins : List (Addr × Obj)) (σ : List (Option V)) (H : Hp) (s : Shared) : Prop where
 ok : X.Ok
 os : s.os = X.s₀.os
 bare : AllBare s.gens
 base : Un X.fs X.ex X.H₀ H X.s₀.heap s.heap
 loc : ∃ m, s.heap.Ns X.env.locals m /\ ∀ (i : Nat) (x : Str) (v : V), X.N[i]? = some x -> σ[i]? = some (some v) -> Vis X.env.scope x -> ∃ u, RelV v u /\ Look X.env s.heap m x u
 cell : ∀ x c, X.env.cells.lookup x = some c -> ∃ v, s.heap.IsCell c v
 free : H X.env.locals = none
 freeC : ∀ x c, X.env.cells.lookup x = some c -> H c = none
 pin : ∀ p ∈ X.pn ++ pins, s.heap.get? p.1 = some p.2 /\ H p.1 = none /\ p.1 ≠ X.env.locals /\ p.1 ∉ X.fs /\ ∀ v, p.2.data ≠ .cell v
 hok : HOk X.prog X.w H s.heap
 len : σ.length = X.N.length
section
variable {X : Cx} {pins : List (Addr × Obj)} {σ : List (Option V)} {H H' : Hp} {s : Shared} {h' : Heap}
theorem Cx.Ok.nofr (ok : X.Ok) {b : Addr} {o : Obj} (e : X.base.get? b = some o) : b ∉ X.fs := fun hb => by
 have := (ok.funs.mem hb).1
 rw [e] at this; cases this
theorem Inv.bs (I : Inv X pins σ H s) : ∀ b o, X.base.get? b = some o -> s.heap.get? b = some o /\ H b = none := fun b o e =>
 ⟨I.base.keep b o (I.ok.bs b o e).1 (I.ok.bs b o e).2 (I.ok.nofr e) (I.ok.noex b o e), I.base.free b o (I.ok.bs b o e).1 (I.ok.bs b o e).2 (I.ok.noex b o e)⟩
theorem Inv.bk (I : Inv X pins σ H s) : ∀ b o, X.base.get? b = some o -> s.heap.get? b = some o := fun b o e => (I.bs b o e).1
theorem Inv.mod (I : Inv X pins σ H s) : Mod X.K X.mg X.base := I.ok.mod
theorem Inv.kIn (I : Inv X pins σ H s) : X.K.In s.heap := I.ok.mod.kin.keeps I.bk
theorem Inv.lt (I : Inv X pins σ H s) : X.env.locals < s.heap.objs.size := let ⟨_, hn, _⟩ := I.loc; hn.lt
theorem Inv.sz (I : Inv X pins σ H s) : X.s₀.heap.objs.size <= s.heap.objs.size := Nat.le_trans I.ok.above (Nat.le_of_lt I.lt)
theorem Inv.nofs (I : Inv X pins σ H s) {a : Addr} (h : s.heap.objs.size <= a) : a ∉ X.fs := fun hb => by
 obtain ⟨_, o, ho, _⟩ := I.ok.funs.mem hb
 exact absurd (Nat.lt_of_lt_of_le (Heap.lt_size ho) (Nat.le_trans I.sz h)) (Nat.lt_irrefl _)
theorem Inv.cne (I : Inv X pins σ H s) : ∀ x c, X.env.cells.lookup x = some c -> c ≠ X.env.locals := fun x c e z => by
 obtain ⟨v, o, ho, hd⟩ := I.cell x c e
 obtain ⟨m, ⟨o', es, ep, ho', hd', _⟩, _⟩ := I.loc
 rw [z, ho'] at ho; cases ho; rw [hd'] at hd; cases hd
theorem Inv.funs (I : Inv X pins σ H s) : s.heap.FunFrames X.base X.outer := by
  have all : ∀ (l : List Env), (∀ b ∈ frs l, b ∈ X.fs) -> X.s₀.heap.FunFrames X.base l -> s.heap.FunFrames X.base l := by
    intro l
    induction l with
    | nil => intro _ _; trivial
    | cons env r ih =>
      intro hs hl
      obtain ⟨hk, ⟨L, o, hf, hn, ho, hd⟩, hr⟩ := hl
      have hL : L ∈ X.fs := hs L (by unfold frs; rw [List.filterMap_cons, hf]; exact List.mem_cons_self)
      obtain ⟨sl, e⟩ := I.base.slot L o ho (I.ok.frf L hL) hL fun z => I.ok.exfs L z hL
      exact ⟨hk, ⟨L, _, hf, hn, e, hd⟩, ih (fun b hb => hs b (by unfold frs; rw [List.filterMap_cons, hf]; exact List.mem_cons_of_mem _ hb)) hr⟩
  exact all X.outer (fun _ hb => hb) I.ok.funs
theorem Inv.stack (I : Inv X pins σ H s) : s.heap.FunFrames X.base X.stack := by
 rcases I.ok.stk with e | ⟨e, hf⟩
 ·rw [e]; exact I.funs
 ·rw [e]
  obtain ⟨m, hn, _⟩ := I.loc
  refine .cons (by rw [I.ok.kind]; decide) hf hn ?_ I.funs
  exact Heap.get?_none_of_le (Nat.le_trans I.ok.bsz I.ok.above)
theorem Inv.stkSub (I : Inv X pins σ H s) : ∀ b ∈ frs X.stack, b ∈ X.env.locals :: X.fs := fun b hb => by
 rcases I.ok.stk with e | ⟨e, hf⟩
 ·rw [e] at hb; exact List.mem_cons_of_mem _ hb
 ·rw [e] at hb
  unfold frs at hb
  rw [List.filterMap_cons, hf] at hb
  exact hb
theorem Inv.stkFree (I : Inv X pins σ H s) : ∀ b ∈ frs X.stack, H b = none := fun b hb => by
 rcases List.mem_cons.mp (I.stkSub b hb) with e | hb
 ·rw [e]; exact I.free
 ·obtain ⟨_, o, ho, _⟩ := I.ok.funs.mem hb
  exact I.base.free b o ho (I.ok.frf b hb) fun z => I.ok.exfs b z hb
theorem Inv.step {g' : Array GenState} {t' : Nat} {d' : Drawn} {ch : List Addr} (I : Inv X pins σ H s)
  (hch : ∀ b ∈ ch, (b ∈ X.ex \/ X.s₀.heap.objs.size <= b) /\ b ≠ X.env.locals /\ (∀ x c, X.env.cells.lookup x = some c -> c ≠ b) /\ ∀ p ∈ X.pn ++ pins, p.1 ≠ b)
  (keep : ∀ b o, b ≠ X.env.locals -> b ∉ X.fs -> b ∉ ch -> s.heap.get? b = some o -> H b = none -> h'.get? b = some o)
  (slot : ∀ b o, b ≠ X.env.locals -> b ∈ X.fs -> b ∉ ch -> s.heap.get? b = some o -> H b = none -> ∃ sl, h'.get? b = some { o with slots := sl }) (free : ∀ b o, b ∉ ch -> s.heap.get? b = some o -> H b = none -> H' b = none)
  (there : ∀ b o, b ∉ ch -> s.heap.get? b = some o -> ∃ o', h'.get? b = some o')
  (tups : ∀ b xs, H b = some (.tup xs) -> H' b = some (.tup xs)) (frzs : ∀ b o u, H b = some (.frz o u) -> H' b = some (.frz o u)) (tbls : ∀ b ps, H b = some (.tbl ps) -> ∃ more, H' b = some (.tbl (ps ++ more)))
  (ns : ∀ m, s.heap.Ns X.env.locals m -> h'.Ns X.env.locals m) (hok : HOk X.prog X.w H' h') (hg : AllBare g') :
  Inv X pins σ H' { s with heap := h', gens := g', drawn := d', toks := t' } := by
 have neL : ∀ b o, X.s₀.heap.get? b = some o -> b ≠ X.env.locals := fun b o e => Nat.ne_of_lt (Nat.lt_of_lt_of_le (Heap.lt_size e) I.ok.above)
 have neC : ∀ b o, X.s₀.heap.get? b = some o -> b ∉ X.ex -> b ∉ ch := fun b o e hx hb => by
  rcases (hch b hb).1 with z | z
  ·exact hx z
  ·exact absurd (Nat.lt_of_lt_of_le (Heap.lt_size e) z) (Nat.lt_irrefl _)
 have cellK : ∀ x c, X.env.cells.lookup x = some c -> ∀ v, s.heap.IsCell c v -> h'.IsCell c v := fun x c e v ⟨o, ho, hd⟩ => by
  have nch : c ∉ ch := fun z => (hch c z).2.2.1 x c e rfl
  by_cases hc : c ∈ X.fs
  ·obtain ⟨sl, q⟩ := slot c o (I.cne x c e) hc nch ho (I.freeC x c e)
   exact ⟨_, q, hd⟩
  ·exact ⟨o, keep c o (I.cne x c e) hc nch ho (I.freeC x c e), hd⟩
 refine ⟨I.ok, I.os, hg, ⟨fun b o e n hb hx => ?_, fun b o e n hb hx => ?_, fun b o e n hx => ?_, fun b o e hx => ?_, fun b xs e => tups b xs (I.base.tups b xs e), fun b o xs e => frzs b o xs (I.base.frzs b o xs e), fun b ps e => ?_⟩, ?_, fun x c e => ?_, ?_, fun x c e => ?_, fun p hp => ?_, hok, I.len⟩
 ·exact keep b o (neL b o e) hb (neC b o e hx) (I.base.keep b o e n hb hx) (I.base.free b o e n hx)
 ·obtain ⟨sl, e1⟩ := I.base.slot b o e n hb hx
  obtain ⟨sl', e2⟩ := slot b _ (neL b o e) hb (neC b o e hx) e1 (I.base.free b o e n hx)
  exact ⟨sl', e2⟩
 ·obtain ⟨o', e1⟩ := I.base.there b o e hx
  exact free b o' (neC b o e hx) e1 (I.base.free b o e n hx)
 ·obtain ⟨o', e1⟩ := I.base.there b o e hx
  exact there b o' (neC b o e hx) e1
 ·obtain ⟨m1, e1⟩ := I.base.tbls b ps e
  obtain ⟨m2, e2⟩ := tbls b _ e1
  exact ⟨m1 ++ m2, by rw [e2, Array.append_assoc]⟩
 ·obtain ⟨m, hn, hl⟩ := I.loc
  refine ⟨m, ns m hn, fun i x v e1 e2 e3 => ?_⟩
  obtain ⟨u, r, l⟩ := hl i x v e1 e2 e3
  refine ⟨u, r, ?_⟩
  rcases l with l | ⟨k, c, e, z⟩
  ·exact .inl l
  ·exact .inr ⟨k, c, e, cellK x c e _ z⟩
 ·obtain ⟨v, z⟩ := I.cell x c e
  exact ⟨v, cellK x c e v z⟩
 ·obtain ⟨m, ⟨o, _, _, ho, _⟩, _⟩ := I.loc
  exact free _ o (fun z => (hch _ z).2.1 rfl) ho I.free
 ·obtain ⟨v, o, ho, hd⟩ := I.cell x c e
  exact free c o (fun z => (hch c z).2.2.1 x c e rfl) ho (I.freeC x c e)
 ·obtain ⟨e, n, ne, nf, d⟩ := I.pin p hp
  have nch : p.1 ∉ ch := fun z => (hch p.1 z).2.2.2 p hp rfl
  exact ⟨keep p.1 p.2 ne nf nch e n, free p.1 p.2 nch e n, ne, nf, d⟩
theorem Inv.un {t' : Nat} (I : Inv X pins σ H s) (u : Un X.fs [] H H' s.heap h') (hok : HOk X.prog X.w H' h') : Inv X pins σ H' { s with heap := h', toks := t' } := by
 obtain ⟨m, ⟨o, es, ep, ho, r⟩, _⟩ := id I.loc
 obtain ⟨sl, hL⟩ := u.any ho I.free (by simp)
 exact I.step (g' := s.gens) (d' := s.drawn) (ch := []) (fun _ z => nomatch z) (fun b o _ hb _ e n => u.keep b o e n hb (by simp)) (fun b o _ hb _ e n => u.slot b o e n hb (by simp)) (fun b o _ e n => u.free b o e n (by simp)) (fun b o _ e => u.there b o e (by simp)) u.tups u.frzs u.tbls (fun m' hm => by
  obtain ⟨o', es', ep', ho', r'⟩ := hm
  rw [ho] at ho'; cases ho'
  exact ⟨_, es', ep', hL, r'⟩) hok I.bare
theorem Inv.call {g' : Array GenState} {t' : Nat} {d' : Drawn} {ch : List Addr} (I : Inv X pins σ H s) (u : Un (frs X.stack) ch H H' s.heap h') (hok : HOk X.prog X.w H' h') (hg : AllBare g')
  (hch : ∀ b ∈ ch, (b ∈ X.ex \/ X.s₀.heap.objs.size <= b) /\ b ≠ X.env.locals /\ (∀ x c, X.env.cells.lookup x = some c -> c ≠ b) /\ ∀ p ∈ X.pn ++ pins, p.1 ≠ b) :
  Inv X pins σ H' { s with heap := h', gens := g', drawn := d', toks := t' } := by
 obtain ⟨m, ⟨o, es, ep, ho, r⟩, _⟩ := id I.loc
 obtain ⟨sl, hL⟩ := u.any ho I.free fun z => (hch _ z).2.1 rfl
 exact I.step (ch := ch) hch (fun b o hL hb hc e n => u.keep b o e n (fun z => (List.mem_cons.mp (I.stkSub b z)).elim hL hb) hc) (fun b o _ _ hc e n => u.any e n hc) (fun b o hc e n => u.free b o e n hc) (fun b o hc e => u.there b o e hc) u.tups u.frzs u.tbls (fun m' hm => by
  obtain ⟨o', es', ep', ho', r'⟩ := hm
  rw [ho] at ho'; cases ho'
  exact ⟨_, es', ep', hL, r'⟩) hok hg
theorem Inv.turned {t' : Nat} {it : Addr} (I : Inv X pins σ H s) (k : ∀ b o, b ≠ it -> s.heap.get? b = some o -> h'.get? b = some o) (hn : H it = none) (hL : it ≠ X.env.locals)
  (h1 : it ∈ X.ex \/ X.s₀.heap.objs.size <= it) (h2 : ∀ x c, X.env.cells.lookup x = some c -> c ≠ it) (h3 : ∀ p ∈ X.pn ++ pins, p.1 ≠ it) : Inv X pins σ H { s with heap := h', toks := t' } := by
 have nit : ∀ b u, H b = some u -> b ≠ it := fun b u e z => by rw [z, hn] at e; cases e
 refine I.step (g' := s.gens) (d' := s.drawn) (ch := [it]) (fun b hb => ?_) (fun b o _ _ hc e _ => k b o (fun z => hc (by simp [z])) e) (fun b o _ _ hc e _ => ⟨o.slots, k b o (fun z => hc (by simp [z])) e⟩) (fun _ _ _ _ n => n)
  (fun b o hc e => ⟨o, k b o (fun z => hc (by simp [z])) e⟩) (fun _ _ e => e) (fun _ _ _ e => e) (fun b ps e => ⟨#[], by rw [e]; simp⟩) (fun m hm => ?_) (fun b u e => ?_) I.bare
 ·have e : b = it := by simpa using hb
  subst e
  exact ⟨h1, hL, h2, h3⟩
 ·obtain ⟨o, es, ep, ho, r⟩ := hm
  exact ⟨o, es, ep, k _ o (Ne.symm hL) ho, r⟩
 ·refine (I.hok b u e).stay (fun c v hc q => k c v ?_ q) (fun _ q => q) fun _ _ q => q
  rcases hc with z | z
  ·rw [z]; exact nit b u e
  ·exact nit c _ z
theorem Inv.tok (I : Inv X pins σ H s) (t : Nat) : Inv X pins σ H { s with toks := t } := I.un (h' := s.heap) (t' := t) Un.refl I.hok
theorem Inv.kept {t' : Nat} (I : Inv X pins σ H s) (k : ∀ b u, s.heap.get? b = some u -> h'.get? b = some u) : Inv X pins σ H { s with heap := h', toks := t' } := I.un (Un.kept k) (I.hok.kept k)
theorem Inv.laid {a : Addr} {o : HO} {t' : Nat} (I : Inv X pins σ H s) (k : ∀ b u, s.heap.get? b = some u -> h'.get? b = some u) (hp : s.heap.objs.size <= a) (new : ObjOk X.prog X.w (upd H a o) h' a o) :
  Inv X pins σ (upd H a o) { s with heap := h', toks := t' } := I.un (Un.laid k hp (I.hok.fresh hp)) (I.hok.laid k hp new)
theorem Inv.write {x e : Addr} {o : HO} {t' : Nat} (I : Inv X pins σ H s) (mu : Mut (H x)) (he : e = x \/ H e = some (.own x)) (k : ∀ b u, b ≠ e -> s.heap.get? b = some u -> h'.get? b = some u) (heo : ∃ u, h'.get? e = some u)
  (new : ObjOk X.prog X.w (upd H x o) h' x o) : Inv X pins σ (upd H x o) { s with heap := h', toks := t' } := I.un (Un.write mu he k heo) (I.hok.write mu he k heo new)
theorem Inv.pins_of {pins' : List (Addr × Obj)} (I : Inv X pins σ H s) (h : ∀ p ∈ pins', s.heap.get? p.1 = some p.2 /\ H p.1 = none /\ p.1 ≠ X.env.locals /\ p.1 ∉ X.fs /\ ∀ v, p.2.data ≠ .cell v) : Inv X pins' σ H s :=
 ⟨I.ok, I.os, I.bare, I.base, I.loc, I.cell, I.free, I.freeC, fun p hp => (List.mem_append.mp hp).elim (fun z => I.pin p (List.mem_append_left _ z)) (h p), I.hok, I.len⟩
theorem ZfI {N : List Str} (hN : N.Nodup) {i j : Nat} {x : Str} (a : N[i]? = some x) (b : N[j]? = some x) : i = j := by
 obtain ⟨h1, e1⟩ := List.getElem?_eq_some_iff.mp a
 obtain ⟨h2, e2⟩ := List.getElem?_eq_some_iff.mp b
 exact (List.getElem_inj hN).mp (e1.trans e2.symm)
theorem Zes {M : Model} {A : Around} {E : Value -> Shared -> Prop} {i : Nat} {x : Str} {v : V} {u : Value} {Q : Unit -> Shared -> Prop} (I : Inv X pins σ H s) (hN : X.N.Nodup) (hi : X.N[i]? = some x) (hx : Loc X.env.scope x) (r : RelV v u)
  (h : ∀ s', Inv X pins (σ.set i (some v)) H s' -> (∃ a, Heap.SameBut a s.heap s'.heap /\ (a = X.env.locals \/ X.env.cells.lookup x = some a)) -> Q () s') (hf : X.fn x = true \/ X.env.scope.names.lookup x = some .local := by first | exact .inl rfl | exact .inr rfl | assumption) : wpAny M A (storeName X.env x u) Q E s := by
 obtain ⟨m, hn, hl⟩ := id I.loc
 have hcls : (X.env.scope.kind == .class || (X.env.scope.kind == .module && X.env.locals != X.env.globals)) = false := by rw [I.ok.kind]; rfl
 have hiσ : i < σ.length := by rw [I.len]; exact (List.getElem?_eq_some_iff.mp hi).1
 have cne := I.cne
 have tracked : ∀ {a : Addr} {h' : Heap}, (∃ o, s.heap.get? a = some o /\ H a = none) -> Heap.SameBut a s.heap h' -> HOk X.prog X.w H h' := fun {a h'} ha hs b ob e => by
  obtain ⟨_, _, hfree⟩ := ha
  refine (I.hok b ob e).stay (fun c w' hc q => (hs.2 c ?_).trans q) (fun _ q => q) fun _ _ q => q
  rintro rfl
  rcases hc with rfl | hc
  ·rw [hfree] at e; cases e
  ·rw [hfree] at hc; cases hc
 rcases hx with hk | hk
 ·refine wpAny_storeName_local hk hn (fun h' hn' hs => ?_) hcls
  obtain ⟨oL, _, _, hoL, _⟩ := id hn
  refine h _ ⟨I.ok, I.os, I.bare, ⟨fun b o e n hb hx => ?_, fun b o e n hb hx => ?_, I.base.free, fun b o e hx => ?_, I.base.tups, I.base.frzs, I.base.tbls⟩, ⟨_, hn', fun j y v' e1 e2 e3 => ?_⟩, fun y c e => ?_, I.free, I.freeC, fun p hp => ?_, tracked ⟨oL, hoL, I.free⟩ hs, by simpa using I.len⟩ ⟨_, hs, .inl rfl⟩
  ·exact (hs.2 b (Nat.ne_of_lt (Nat.lt_of_lt_of_le (Heap.lt_size e) I.ok.above))).trans (I.base.keep b o e n hb hx)
  ·obtain ⟨sl, e1⟩ := I.base.slot b o e n hb hx
   exact ⟨sl, (hs.2 b (Nat.ne_of_lt (Nat.lt_of_lt_of_le (Heap.lt_size e) I.ok.above))).trans e1⟩
  ·obtain ⟨o', e1⟩ := I.base.there b o e hx
   exact ⟨o', (hs.2 b (Nat.ne_of_lt (Nat.lt_of_lt_of_le (Heap.lt_size e) I.ok.above))).trans e1⟩
  ·by_cases hj : j = i
   ·subst hj
    rw [hi] at e1; cases e1
    rw [List.getElem?_set_self hiσ] at e2
    cases e2
    exact ⟨u, r, .inl ⟨hk, by simp⟩⟩
   ·rw [List.getElem?_set_ne (Ne.symm hj)] at e2
    obtain ⟨u', r', q⟩ := hl j y v' e1 e2 e3
    refine ⟨u', r', ?_⟩
    rcases q with ⟨k, e⟩ | ⟨k, c, e, z⟩
    ·refine .inl ⟨k, ?_⟩
     have : y ≠ x := fun e => hj (ZfI hN e1 (e ▸ hi))
     simp [this, e]
    ·exact .inr ⟨k, c, e, z.sameBut hs (cne y c e)⟩
  ·obtain ⟨w', z⟩ := I.cell y c e
   exact ⟨w', z.sameBut hs (cne y c e)⟩
  ·obtain ⟨e, n, ne, nf, d⟩ := I.pin p hp
   exact ⟨(hs.2 p.1 ne).trans e, n, ne, nf, d⟩
 ·have hfn : X.fn x = true := by
   rcases hf with z | z
   ·exact z
   ·rw [z] at hk; cases hk
  obtain ⟨c, hc⟩ := I.ok.has x (.inl hk)
  obtain ⟨w', z⟩ := I.cell x c hc
  refine wpAny_storeName_cell I.ok.kind hk hc z (fun h' hc' hs => ?_)
  obtain ⟨oc, hoc, hocd⟩ := id z
  refine h { s with heap := h' } ⟨I.ok, I.os, I.bare, ⟨fun b o e n hb hx => ?_, fun b o e n hb hx => ?_, I.base.free, fun b o e hx => ?_, I.base.tups, I.base.frzs, I.base.tbls⟩, ⟨m, hn.sameBut hs (Ne.symm (cne x c hc)), fun j y v' e1 e2 e3 => ?_⟩, fun y c' e => ?_, I.free, I.freeC, fun p hp => ?_, tracked ⟨oc, hoc, I.freeC x c hc⟩ hs, by simpa using I.len⟩ ⟨c, hs, .inr hc⟩
  ·exact (hs.2 b (Nat.ne_of_lt (Nat.lt_of_lt_of_le (Heap.lt_size e) (I.ok.cab x c hfn hc)))).trans (I.base.keep b o e n hb hx)
  ·obtain ⟨sl, e1⟩ := I.base.slot b o e n hb hx
   exact ⟨sl, (hs.2 b (Nat.ne_of_lt (Nat.lt_of_lt_of_le (Heap.lt_size e) (I.ok.cab x c hfn hc)))).trans e1⟩
  ·obtain ⟨o', e1⟩ := I.base.there b o e hx
   exact ⟨o', (hs.2 b (Nat.ne_of_lt (Nat.lt_of_lt_of_le (Heap.lt_size e) (I.ok.cab x c hfn hc)))).trans e1⟩
  ·by_cases hj : j = i
   ·subst hj
    rw [hi] at e1; cases e1
    rw [List.getElem?_set_self hiσ] at e2
    cases e2
    exact ⟨u, r, .inr ⟨.inl hk, c, hc, hc'⟩⟩
   ·rw [List.getElem?_set_ne (Ne.symm hj)] at e2
    obtain ⟨u', r', q⟩ := hl j y v' e1 e2 e3
    refine ⟨u', r', ?_⟩
    rcases q with q | ⟨k, c', e, z'⟩
    ·exact .inl q
    ·refine .inr ⟨k, c', e, z'.sameBut hs ?_⟩
     rintro rfl
     exact hj (ZfI hN e1 (I.ok.inj _ _ _ e hc ▸ hi))
  ·by_cases hcc : c' = c
   ·subst hcc; exact ⟨_, hc'⟩
   ·obtain ⟨w2, z2⟩ := I.cell y c' e
    exact ⟨w2, z2.sameBut hs hcc⟩
  ·obtain ⟨e, n, ne, nf, d⟩ := I.pin p hp
   refine ⟨(hs.2 p.1 ?_).trans e, n, ne, nf, d⟩
   intro q
   rw [q, hoc] at e
   have q' : oc = p.2 := Option.some.inj e
   exact d w' (by rw [<- q']; exact hocd)
theorem Zdv {M : Model} {A : Around} {E : Value -> Shared -> Prop} {i : Nat} {x : Str} {v : V} {u : Value} {Q : Unit -> Shared -> Prop} (I : Inv X pins σ H s) (hN : X.N.Nodup) (hi : X.N[i]? = some x) (hx : Loc X.env.scope x) (r : RelV v u)
  (h : ∀ s', Inv X pins (σ.set i (some v)) H s' -> Q () s') (hf : X.fn x = true \/ X.env.scope.names.lookup x = some .local := by first | exact .inl rfl | exact .inr rfl | assumption) : wpAny M A (storeName X.env x u) Q E s :=
 Zes I hN hi hx r (fun s' I' _ => h s' I') hf
theorem Inv.call' {s' : Shared} {ch : List Addr} (I : Inv X pins σ H s) (ho : s'.os = s.os) (u : Un (frs X.stack) ch H H' s.heap s'.heap) (hok : HOk X.prog X.w H' s'.heap) (hg : AllBare s'.gens)
  (hch : ∀ b ∈ ch, (b ∈ X.ex \/ X.s₀.heap.objs.size <= b) /\ b ≠ X.env.locals /\ (∀ x c, X.env.cells.lookup x = some c -> c ≠ b) /\ ∀ p ∈ X.pn ++ pins, p.1 ≠ b) : Inv X pins σ H' s' := by
 obtain ⟨h', g', d', t', o'⟩ := s'
 have e : o' = s.os := ho
 subst e
 exact I.call (g' := g') (t' := t') (d' := d') u hok hg hch
end
noncomputable abbrev XK := Value -> Option Addr -> Hp -> Prop
noncomputable abbrev St := List (Option V)
noncomputable abbrev VK := V -> Hp -> Prop
noncomputable abbrev TE := St -> Hp -> VK -> Prop
noncomputable abbrev TT := St -> Hp -> (Bool -> Hp -> Prop) -> Prop
noncomputable abbrev TA := St -> Hp -> (List V -> Hp -> Prop) -> Prop
structure Ends where
 nx : St -> Hp -> Prop
 rt : VK
 bk : St -> Hp -> Prop := fun _ _ => False
 ct : St -> Hp -> Prop := fun _ _ => False
noncomputable abbrev TS := Ends -> St -> Hp -> Prop
noncomputable def EP (X : Cx) (pins : List (Addr × Obj)) (σ : St) (Q : VK) (u : Value) (s' : Shared) : Prop := ∃ v H', Inv X pins σ H' s' /\ RelV v u /\ Q v H'
noncomputable def TP (X : Cx) (pins : List (Addr × Obj)) (σ : St) (Q : Bool -> Hp -> Prop) (b : Bool) (s' : Shared) : Prop := ∃ H', Inv X pins σ H' s' /\ Q b H'
noncomputable def AP (X : Cx) (pins : List (Addr × Obj)) (σ : St) (Q : List V -> Hp -> Prop) (us : List Value) (s' : Shared) : Prop := ∃ vs H', Inv X pins σ H' s' /\ Vals vs us /\ Q vs H'
noncomputable def SP (X : Cx) (pins : List (Addr × Obj)) (D : Ends) (f : Flow) (s' : Shared) : Prop :=
 match f with
 | .next => ∃ σ' H', Inv X pins σ' H' s' /\ D.nx σ' H'
 | .brk => ∃ σ' H', Inv X pins σ' H' s' /\ D.bk σ' H'
 | .cont => ∃ σ' H', Inv X pins σ' H' s' /\ D.ct σ' H'
 | .ret u => ∃ v σ' H', Inv X pins σ' H' s' /\ RelV v u /\ D.rt v H'
noncomputable def PE (X : Cx) (e : Expr) (t : TE) : Prop :=
 ∀ (pins : List (Addr × Obj)) (s : Shared) (σ : St) (H : Hp) (Q : VK), Inv X pins σ H s -> t σ H Q -> wpAny (model X.prog X.w) X.A (eval e X.env) (EP X pins σ Q) X.xe s
noncomputable def PT (X : Cx) (e : Expr) (t : TT) : Prop :=
 ∀ (pins : List (Addr × Obj)) (s : Shared) (σ : St) (H : Hp) (Q : Bool -> Hp -> Prop), Inv X pins σ H s -> t σ H Q -> wpAny (model X.prog X.w) X.A (isTrue e X.env (eval e X.env)) (TP X pins σ Q) X.xe s
noncomputable def PW (X : Cx) (e : Expr) (t : TT) : Prop :=
 ∀ (whole : Sem Value) (pins : List (Addr × Obj)) (s : Shared) (σ : St) (H : Hp) (Q : Bool -> Hp -> Prop), Inv X pins σ H s -> t σ H Q -> wpAny (model X.prog X.w) X.A (isTrue e X.env whole) (TP X pins σ Q) X.xe s
theorem PW.pt {X : Cx} {e : Expr} {t : TT} (h : PW X e t) : PT X e t := h _
noncomputable def PA (X : Cx) (es : List Expr) (t : TA) : Prop :=
 ∀ (pos : Pos) (pins : List (Addr × Obj)) (s : Shared) (σ : St) (H : Hp) (Q : List V -> Hp -> Prop), Inv X pins σ H s -> t σ H Q -> wpAny (model X.prog X.w) X.A (spliced (backTo pos (starEach es X.env))) (AP X pins σ Q) X.xe s
noncomputable def PS (X : Cx) (st : Stmt) (t : TS) : Prop :=
 ∀ (pins : List (Addr × Obj)) (s : Shared) (σ : St) (H : Hp) (D : Ends), Inv X pins σ H s -> t D σ H -> wpAny (model X.prog X.w) X.A (exec st X.env) (SP X pins D) X.xe s
noncomputable def PSs (X : Cx) (st : List Stmt) (t : TS) : Prop :=
 ∀ (pins : List (Addr × Obj)) (s : Shared) (σ : St) (H : Hp) (D : Ends), Inv X pins σ H s -> t D σ H -> wpAny (model X.prog X.w) X.A (execs st X.env) (SP X pins D) X.xe s
theorem thn {α : Type} {t : Sem α} {Q Q' : α -> Shared -> Prop} {M : Model} {A : Around} {E : Value -> Shared -> Prop} {s : Shared} (h : wpAny M A t Q E s) (hQ : ∀ a s, Q a s -> Q' a s) : wpAny M A t Q' E s := wpAny_mono h hQ fun _ _ x => x
end L2
namespace L2
open PySem PySem.Spec PyProof.Rows
section
variable {X : Cx}
theorem bin {a b : Expr} {ta tb : TE} (ha : PE X a ta) (hb : PE X b tb) {pins : List (Addr × Obj)} {s : Shared} {σ : St} {H : Hp} {R : V -> V -> Hp -> Prop} (I : Inv X pins σ H s) (h : ta σ H fun x H1 => tb σ H1 fun y H2 => R x y H2)
  {α : Type} {Q : α -> Shared -> Prop} {f : Value -> Value -> Sem α}
  (hf : ∀ v u s2 x y H2, Inv X pins σ H2 s2 -> RelV x v -> RelV y u -> R x y H2 -> wpAny (model X.prog X.w) X.A (f v u) Q X.xe s2) :
  wpAny (model X.prog X.w) X.A (eval a X.env) (fun v s₁ => wpAny (model X.prog X.w) X.A (eval b X.env) (fun u s₂ => wpAny (model X.prog X.w) X.A (f v u) Q X.xe s₂) X.xe s₁) X.xe s := by
 refine thn (ha pins s σ H _ I h) fun v s1 ⟨x, H1, I1, r1, q1⟩ => ?_
 refine thn (hb pins s1 σ H1 _ I1 q1) fun u s2 ⟨y, H2, I2, r2, q2⟩ => ?_
 exact hf v u s2 x y H2 I2 r1 r2 q2
noncomputable def tVar (i : Nat) : TE := fun σ H Q => ∃ v, σ[i]? = some (some v) /\ Q v H
noncomputable def tC (v : V) : TE := fun _ H Q => Q v H
theorem pe_var {i : Nat} {x : Str} {pos : Pos} (hN : X.N[i]? = some x) (hv : Vis X.env.scope x) (hd : (x == ("__debug__" : Str)) = false := by decide) (hcd : (x == ("__classdict__" : Str)) = false := by decide) : PE X (.Name x pos) (tVar i) := by
 intro pins s σ H Q I h
 obtain ⟨v, e, h⟩ := h
 obtain ⟨m, hn, hl⟩ := I.loc
 obtain ⟨u, r, l⟩ := hl i x v hN e hv
 have fin : EP X pins σ Q u s := ⟨v, H, I, r, h⟩
 rcases l with ⟨hk, hm⟩ | ⟨hk, c, hc, hcell⟩
 ·exact wpAny_Name (wpAny_loadName_local I.ok.kind hk hn hm fin) hd
 ·rcases hk with hk | hk
  ·exact wpAny_Name (wpAny_loadName_cell I.ok.kind hk hc hcell fin) hd
  ·exact wpAny_Name (wpAny_loadName_free I.ok.kind hk hc hcell fin hcd) hd
theorem Zad {i j pos} : PE X (.Constant (.int i) j pos) (tC (.int i)) := fun _ _ _ H _ I h => wpAny_Constant_int ⟨.int i, H, I.tok _, ⟨_, rfl⟩, h⟩
theorem Zeg {b j pos} : PE X (.Constant (.bool b) j pos) (tC (.bl b)) := fun _ _ _ H _ I h => Constant_bool ⟨.bl b, H, I, rfl, h⟩
theorem ZbW {j pos} : PE X (.Constant .none j pos) (tC .non) := fun _ _ _ H _ I h => Constant_none ⟨.non, H, I, rfl, h⟩
theorem Zan {x j pos} : PE X (.Constant (.str x) j pos) (tC (.str x)) := fun _ _ _ H _ I h => Calls.Constant_str ⟨.str x, H, I.tok _, ⟨_, rfl⟩, h⟩
noncomputable def Gl (X : Cx) (x : Str) : Prop := X.env.kindOf x = some .globalImplicit
theorem ZcU {E : Value -> Shared -> Prop} {pins : List (Addr × Obj)} {s : Shared} {σ : St} {H : Hp} {x : Str} {u : Value} {pos : Pos} {Q : Value -> Shared -> Prop} (I : Inv X pins σ H s) (hg : Gl X x) (hm : X.mg x = some u) (h : Q u s)
  (hd : (x == ("__debug__" : Str)) = false := by decide) : wpAny (model X.prog X.w) X.A (eval (.Name x pos) X.env) Q E s :=
 Calls.Name_function_global I.ok.kind hg (Calls.loadGlobal_global (by rw [I.ok.glob]; exact I.mod.glob.keeps I.bk) hm h) hd
theorem Zhu {E : Value -> Shared -> Prop} {pins : List (Addr × Obj)} {s : Shared} {σ : St} {H : Hp} {x : Str} {u : Value} {pos : Pos} {Q : Value -> Shared -> Prop} (I : Inv X pins σ H s) (hg : Gl X x) (hm : X.mg x = none) (hv : bootBuiltins x = some u) (h : Q u s)
  (hn : x ≠ "__name__" := by decide) (hd : (x == ("__debug__" : Str)) = false := by decide) : wpAny (model X.prog X.w) X.A (eval (.Name x pos) X.env) Q E s := by
 obtain ⟨mb, h1, h2⟩ := I.mod.blt
 exact Calls.Name_function_global I.ok.kind hg (Calls.loadGlobal_builtin (by rw [I.ok.glob]; exact I.mod.glob.keeps I.bk) hm (by rw [I.ok.blt]; exact h1.keeps I.bk) ((h2 x hn).trans hv) h) hd
theorem ZeE {x : Str} {v : V} {u : Value} {pos : Pos} (hg : Gl X x) (hm : X.mg x = some u) (r : RelV v u) (hd : (x == ("__debug__" : Str)) = false := by decide) : PE X (.Name x pos) (tC v) :=
 fun _ _ _ H _ I h => ZcU I hg hm ⟨v, H, I, r, h⟩ hd
theorem Zcd {x : Str} {v : V} {u : Value} {pos : Pos} (hg : Gl X x) (hm : X.mg x = none) (hv : bootBuiltins x = some u) (r : RelV v u) (hn : x ≠ "__name__" := by decide) (hd : (x == ("__debug__" : Str)) = false := by decide) : PE X (.Name x pos) (tC v) :=
 fun _ _ _ H _ I h => Zhu I hg hm hv ⟨v, H, I, r, h⟩ hn hd
variable {a b : Expr} {ta tb : TE} {pos : Pos}
noncomputable def tB (t : TE) : TT := fun σ H Q => t σ H fun x H1 => ∃ c, x = .bl c /\ Q c H1
theorem ZcE {e : Expr} {t : TE} (h : PE X e t) (he : ∀ whole, isTrue e X.env whole = (do let v <- whole; standAt e.pos; holding [v] (truthy v)) := by intro _; rfl) : PT X e (tB t) := by
 intro pins s σ H Q I hw
 refine isTrue_plain (thn (h pins s σ H _ I hw) fun v s1 ⟨x, H1, I1, r1, q1⟩ => ?_) (he _)
 obtain ⟨d, rfl, q⟩ := q1
 cases r1
 exact wpAny_truthy_bool ⟨H1, I1, q⟩
variable {tA tB' : TT} {rest : List Expr}
noncomputable def tAnd (t u : TT) : TT := fun σ H Q => t σ H fun c H1 => if c = true then u σ H1 Q else Q false H1
noncomputable def tOr (t u : TT) : TT := fun σ H Q => t σ H fun c H1 => if c = true then Q true H1 else u σ H1 Q
noncomputable def tNot (t : TT) : TT := fun σ H Q => t σ H fun c H1 => Q (!c) H1
theorem ZcP (ha : PT X a tA) : PW X (.BoolOp .And [a] pos) tA := by
 intro wh pins s σ H Q I h
 refine isTrue_and (thn (ha pins s σ H Q I h) fun c s1 e => ?_)
 cases c with
 | true => exact isTrue_and_nil e
 | false => exact e
theorem Zea (ha : PT X a tA) : PW X (.BoolOp .Or [a] pos) tA := by
 intro wh pins s σ H Q I h
 refine isTrue_or (thn (ha pins s σ H Q I h) fun c s1 e => ?_)
 cases c with
 | false => exact isTrue_or_nil e
 | true => exact e
theorem ZdD (ha : PT X a tA) (hb : PW X (.BoolOp .And (b :: rest) pos) tB') : PW X (.BoolOp .And (a :: b :: rest) pos) (tAnd tA tB') := by
 intro wh pins s σ H Q I h
 refine isTrue_and (thn (ha pins s σ H _ I h) fun c s1 ⟨H1, I1, q1⟩ => ?_)
 cases c with
 | true => exact hb wh pins s1 σ H1 Q I1 q1
 | false => exact ⟨H1, I1, q1⟩
theorem ZfD (ha : PT X a tA) (hb : PW X (.BoolOp .Or (b :: rest) pos) tB') : PW X (.BoolOp .Or (a :: b :: rest) pos) (tOr tA tB') := by
 intro wh pins s σ H Q I h
 refine isTrue_or (thn (ha pins s σ H _ I h) fun c s1 ⟨H1, I1, q1⟩ => ?_)
 cases c with
 | true => exact ⟨H1, I1, q1⟩
 | false => exact hb wh pins s1 σ H1 Q I1 q1
theorem Zfb (ha : PT X a tA) : PT X (.UnaryOp .Not a pos) (tNot tA) := by
 intro pins s σ H Q I h
 exact isTrue_not (ha pins s σ H (fun c H1 => Q (!c) H1) I h)
noncomputable def tAndV (ta tb : TE) : TE := fun σ H Q => ta σ H fun x H1 => ∃ c, x = .bl c /\ if c = true then tb σ H1 Q else Q (.bl false) H1
noncomputable def tOrV (ta tb : TE) : TE := fun σ H Q => ta σ H fun x H1 => ∃ c, x = .bl c /\ if c = true then Q (.bl true) H1 else tb σ H1 Q
noncomputable def tNotV (ta : TE) : TE := fun σ H Q => ta σ H fun x H1 => ∃ c, x = .bl c /\ Q (.bl (!c)) H1
theorem Zhm {op} {t : TE} (h : PE X a t) : PE X (.BoolOp op [a] pos) t := fun pins s σ H Q I hw => BoolOp_one (h pins s σ H Q I hw)
theorem Zho (ha : PE X a ta) (hb : PE X (.BoolOp .And (b :: rest) pos) tb) : PE X (.BoolOp .And (a :: b :: rest) pos) (tAndV ta tb) := by
 intro pins s σ H Q I h
 refine BoolOp_and (thn (ha pins s σ H _ I h) fun v s1 ⟨x, H1, I1, r1, q1⟩ => ?_)
 obtain ⟨c, rfl, q1⟩ := q1
 cases r1
 refine wpAny_truthy_bool ?_
 cases c with
 | true => exact hb pins s1 σ H1 Q I1 q1
 | false => exact ⟨.bl false, H1, I1, rfl, q1⟩
theorem pe_or (ha : PE X a ta) (hb : PE X (.BoolOp .Or (b :: rest) pos) tb) : PE X (.BoolOp .Or (a :: b :: rest) pos) (tOrV ta tb) := by
 intro pins s σ H Q I h
 refine BoolOp_or (thn (ha pins s σ H _ I h) fun v s1 ⟨x, H1, I1, r1, q1⟩ => ?_)
 obtain ⟨c, rfl, q1⟩ := q1
 cases r1
 refine wpAny_truthy_bool ?_
 cases c with
 | false => exact hb pins s1 σ H1 Q I1 q1
 | true => exact ⟨.bl true, H1, I1, rfl, q1⟩
theorem pe_not (ha : PE X a ta) : PE X (.UnaryOp .Not a pos) (tNotV ta) := by
 intro pins s σ H Q I h
 refine UnaryOp_ (thn (ha pins s σ H _ I h) fun v s1 ⟨x, H1, I1, r1, q1⟩ => ?_)
 obtain ⟨c, rfl, q1⟩ := q1
 cases r1
 exact not_of (wpAny_truthy_bool ⟨.bl (!c), H1, I1, rfl, q1⟩)
noncomputable def tIf (t : TT) (ta tb : TE) : TE := fun σ H Q => t σ H fun c H1 => if c = true then ta σ H1 Q else tb σ H1 Q
theorem Zhn {c : Expr} (hc : PT X c tA) (ha : PE X a ta) (hb : PE X b tb) : PE X (.IfExp c a b pos) (tIf tA ta tb) := by
 intro pins s σ H Q I h
 refine wpAny_IfExp (thn (hc pins s σ H _ I h) fun d s1 ⟨H1, I1, q1⟩ => ?_)
 cases d with
 | true => exact ha pins s1 σ H1 Q I1 q1
 | false => exact hb pins s1 σ H1 Q I1 q1
end
end L2
namespace L2
open PySem PySem.Spec PyProof.Rows
noncomputable def SqL (K : PySem.W.Frag) (H : Hp) (a : Addr) (xs : List V) : Prop :=
 Rd H a (.lst xs) \/
  ∃ (o : Obj) (its : Array Value) (n : Nat), K.lookup a = some o /\ o.cls = .type "list" /\ o.dict = none /\ o.data = .seq its n /\ its.size <= sizeLine /\ Vals xs its.toList
noncomputable def SqT (K : PySem.W.Frag) (H : Hp) (a : Addr) (xs : List V) : Prop :=
 Rd H a (.tup xs) \/
  ∃ (o : Obj) (its : Array Value) (n : Nat), K.lookup a = some o /\ o.cls = .type "tuple" /\ o.data = .seq its n /\ its.size <= sizeLine /\ Vals xs its.toList
noncomputable def absV : Value -> Option V
 | .none => some .non
 | .bool b => some (.bl b)
 | .int i _ => some (.int i)
 | .str x _ => some (.str x)
 | .bytes b _ => some (.byt b)
 | .float b _ => some (.flt b)
 | .ref a => some (.ref a)
 | .type n => some (.ty n)
 | _ => none
theorem RelV.abs {x : V} {u : Value} (r : RelV x u) : absV u = some x := by
 cases x with
 | non => cases r; rfl
 | bl _ => cases r; rfl
 | int _ => obtain ⟨t, rfl⟩ := r; rfl
 | str _ => obtain ⟨t, rfl⟩ := r; rfl
 | byt _ => obtain ⟨t, rfl⟩ := r; rfl
 | flt _ => obtain ⟨t, rfl⟩ := r; rfl
 | ref _ => cases r; rfl
 | ty _ => cases r; rfl
theorem RelV.inj {x y : V} {u : Value} (r : RelV x u) (q : RelV y u) : x = y := Option.some.inj (r.abs.symm.trans q.abs)
theorem Vals.inj : ∀ {xs ys : List V} {us : List Value}, Vals xs us -> Vals ys us -> xs = ys
 | _, _, _, .nil, .nil => rfl
 | _, _, _, .cons r t, .cons r' t' => by rw [r.inj r', Vals.inj t t']
section
variable {X : Cx} {pins : List (Addr × Obj)} {σ : St} {H : Hp} {s : Shared} {a : Addr} {xs ys : List V}
theorem SqL.of {K : PySem.W.Frag} (h : H a = some (.lst xs)) : SqL K H a xs := .inl (.inl h)
theorem SqT.of {K : PySem.W.Frag} (h : H a = some (.tup xs)) : SqT K H a xs := .inl (.inl h)
theorem Inv.list (I : Inv X pins σ H s) (h : SqL X.K H a xs) : ∃ its : List Value, Vals xs its /\ PlainL s.heap a its.toArray /\ xs.length <= sizeLine := by
 rcases h with h | ⟨o, its, n, hk, hc, hd, hs, hz, r⟩
 ·obtain ⟨z, its, n, r, e⟩ := h.ok I.hok
  exact ⟨its, r, ⟨_, n, e, rfl, rfl, rfl⟩, z⟩
 ·refine ⟨its.toList, r, ⟨o, n, I.kIn a o hk, hc, hd, by simpa using hs⟩, ?_⟩
  have e := r.length
  simp only [Array.length_toList] at e
  lia
theorem Inv.tuple (I : Inv X pins σ H s) (h : SqT X.K H a xs) : ∃ its : List Value, Vals xs its /\ IsTup s.heap a its.toArray /\ xs.length <= sizeLine := by
 rcases h with h | ⟨o, its, n, hk, hc, hs, hz, r⟩
 ·obtain ⟨z, its, r, p⟩ := h.ok I.hok
  exact ⟨its, r, p, z⟩
 ·refine ⟨its.toList, r, ⟨o, I.kIn a o hk, hc, n, by simpa using hs⟩, ?_⟩
  have e := r.length
  simp only [Array.length_toList] at e
  lia
theorem Inv.list_inj (I : Inv X pins σ H s) (h : SqL X.K H a xs) (h' : SqL X.K H a ys) : xs = ys := by
 obtain ⟨its, r, ⟨o, n, e, _, _, d⟩, _⟩ := I.list h
 obtain ⟨its', r', ⟨o', n', e', _, _, d'⟩, _⟩ := I.list h'
 rw [e] at e'; cases e'
 rw [d] at d'
 injection d' with d1 _
 have : its = its' := by simpa using congrArg Array.toList d1
 subst this
 exact r.inj r'
theorem Inv.tuple_inj (I : Inv X pins σ H s) (h : SqT X.K H a xs) (h' : SqT X.K H a ys) : xs = ys := by
 obtain ⟨its, r, ⟨o, e, _, n, d⟩, _⟩ := I.tuple h
 obtain ⟨its', r', ⟨o', e', _, n', d'⟩, _⟩ := I.tuple h'
 rw [e] at e'; cases e'
 rw [d] at d'
 injection d' with d1 _
 have : its = its' := by simpa using congrArg Array.toList d1
 subst this
 exact r.inj r'
end
noncomputable abbrev Cx.wish (X : Cx) (E : Value -> Shared -> Prop) : Cx := { X with xe := E }
noncomputable abbrev Cx.nox (X : Cx) : Cx := X.wish fun _ _ => False
theorem Cx.Ok.wish {X : Cx} (ok : X.Ok) (E : Value -> Shared -> Prop) : (X.wish E).Ok :=
 ⟨ok.mod, ok.kind, ok.glob, ok.blt, ok.above, ok.inj, ok.has, ok.cab, ok.hd, ok.frames, ok.stk, ok.exf, ok.bs, ok.bsz, ok.noex, ok.exfs, ok.funs, ok.frf⟩
theorem Cx.Ok.unwish {X : Cx} {E : Value -> Shared -> Prop} (ok : (X.wish E).Ok) : X.Ok :=
 ⟨ok.mod, ok.kind, ok.glob, ok.blt, ok.above, ok.inj, ok.has, ok.cab, ok.hd, ok.frames, ok.stk, ok.exf, ok.bs, ok.bsz, ok.noex, ok.exfs, ok.funs, ok.frf⟩
section
variable {X : Cx} {pins : List (Addr × Obj)} {σ : St} {H : Hp} {s : Shared} {E : Value -> Shared -> Prop}
theorem Inv.wish (I : Inv X pins σ H s) (E : Value -> Shared -> Prop) : Inv (X.wish E) pins σ H s := ⟨I.ok.wish E, I.os, I.bare, I.base, I.loc, I.cell, I.free, I.freeC, I.pin, I.hok, I.len⟩
theorem Inv.unwish (I : Inv (X.wish E) pins σ H s) : Inv X pins σ H s := ⟨I.ok.unwish, I.os, I.bare, I.base, I.loc, I.cell, I.free, I.freeC, I.pin, I.hok, I.len⟩
theorem SP.unwish {D : Ends} {f : Flow} {s' : Shared} (h : SP (X.wish E) pins D f s') : SP X pins D f s' := by
 cases f with
 | next => obtain ⟨σ', H', I, q⟩ := h; exact ⟨σ', H', I.unwish, q⟩
 | brk => obtain ⟨σ', H', I, q⟩ := h; exact ⟨σ', H', I.unwish, q⟩
 | cont => obtain ⟨σ', H', I, q⟩ := h; exact ⟨σ', H', I.unwish, q⟩
 | ret u => obtain ⟨v, σ', H', I, r, q⟩ := h; exact ⟨v, σ', H', I.unwish, r, q⟩
theorem PSs.nox {st : List Stmt} {t : TS} (h : PSs X.nox st t) : PSs X st t := fun pins s σ H D I hw =>
 wpAny_mono (h pins s σ H D (I.wish _) hw) (fun _ _ q => q.unwish) fun _ _ z => False.elim z
end
section
variable {X : Cx} {st : Stmt} {rest : List Stmt} {t u : TS} {e : Expr} {te : TE} {pos : Pos}
noncomputable def Zj4 : TS := fun D σ H => D.nx σ H
noncomputable def tSeq (t u : TS) : TS := fun D σ H => t { D with nx := u D } σ H
theorem Zaq : PSs X [] Zj4 := fun _ _ σ H _ I h => wpAny_execs_nil ⟨σ, H, I, h⟩
theorem Zac (h1 : PS X st t) (h2 : PSs X rest u) : PSs X (st :: rest) (tSeq t u) := by
  intro pins s σ H D I h
  refine wpAny_execs_cons (thn (h1 pins s σ H { D with nx := u D } I h) fun f s1 q => ?_)
  cases f with
  | next =>
    obtain ⟨σ', H', I', q⟩ := q
    exact h2 pins s1 σ' H' D I' q
  | ret v => exact q
  | brk => exact q
  | cont => exact q
theorem Zaf (h1 : PS X st t) : PSs X [st] t := by
 intro pins s σ H D I h
 refine wpAny_execs_cons (thn (h1 pins s σ H D I h) fun f s1 q => ?_)
 cases f with
 | next => exact wpAny_execs_nil q
 | ret v => exact q
 | brk => exact q
 | cont => exact q
theorem Inv.quiet {pins : List (Addr × Obj)} {σ : St} {H : Hp} {s : Shared} (I : Inv X pins σ H s) : interactive X.env = false := by simp [interactive, I.ok.kind]
noncomputable def tDrop (te : TE) : TS := fun D σ H => te σ H fun _ H1 => D.nx σ H1
theorem ZbL (he : PE X e te) (hs : swapsWith e none pos.line X.env = pure false := by rfl) : PS X (.Expr e pos) (tDrop te) := by
 intro pins s σ H D I h
 exact wpAny_Expr_any (thn (he pins s σ H _ I h) fun v s1 ⟨x, H1, I1, r1, q1⟩ => ⟨σ, H1, I1, q1⟩) I.quiet hs
noncomputable def tRet (te : TE) : TS := fun D σ H => te σ H D.rt
theorem Zas (he : PE X e te) : PS X (.Return (some e) pos) (tRet te) := by
 intro pins s σ H D I h
 exact wpAny_Return_some (thn (he pins s σ H _ I h) fun v s1 ⟨x, H1, I1, r1, q1⟩ => ⟨x, σ, H1, I1, r1, q1⟩)
noncomputable def tIfS (c : TT) (t u : TS) : TS := fun D σ H => c σ H fun b H1 => if b = true then t D σ H1 else u D σ H1
theorem ZaL {c : Expr} {a b : List Stmt} {tc : TT} (hc : PT X c tc) (ha : PSs X a t) (hb : PSs X b u) : PS X (.If c a b pos) (tIfS tc t u) := by
 intro pins s σ H D I h
 refine wpAny_If (thn (hc pins s σ H _ I h) fun d s1 ⟨H1, I1, q1⟩ => ?_)
 cases d with
 | true => exact ha pins s1 σ H1 D I1 q1
 | false => exact hb pins s1 σ H1 D I1 q1
end
noncomputable abbrev TG := V -> St -> Hp -> (St -> Hp -> Prop) -> Prop
noncomputable abbrev TGs := List V -> St -> Hp -> (St -> Hp -> Prop) -> Prop
noncomputable def PG (X : Cx) (target : Expr) (t : TG) : Prop :=
 ∀ (pins : List (Addr × Obj)) (s : Shared) (σ : St) (H : Hp) (v : V) (u : Value) (Q : St -> Hp -> Prop), Inv X pins σ H s -> RelV v u -> t v σ H Q ->
  wpAny (model X.prog X.w) X.A (assign target X.env u) (fun _ s' => ∃ σ' H', Inv X pins σ' H' s' /\ Q σ' H') X.xe s
noncomputable def PGs (X : Cx) (ts : List Expr) (t : TGs) : Prop :=
 ∀ (pins : List (Addr × Obj)) (s : Shared) (σ : St) (H : Hp) (vs : List V) (us : List Value) (Q : St -> Hp -> Prop), Inv X pins σ H s -> Vals vs us -> t vs σ H Q ->
  wpAny (model X.prog X.w) X.A (assignInOrder ((assignEach ts X.env).map (·.2)) us) (fun _ s' => ∃ σ' H', Inv X pins σ' H' s' /\ Q σ' H') X.xe s
noncomputable abbrev TSet := V -> V -> V -> Hp -> (Hp -> Prop) -> Prop
noncomputable def PSet (X : Cx) (t : TSet) : Prop :=
 ∀ (pins : List (Addr × Obj)) (s : Shared) (σ : St) (H : Hp) (o i v : V) (ov iv u : Value) (Q : Hp -> Prop), Inv X pins σ H s -> RelV o ov -> RelV i iv -> RelV v u -> t o i v H Q ->
  wpAny (model X.prog X.w) X.A (setItem ov iv u) (fun _ s' => ∃ H', Inv X pins σ H' s' /\ Q H') X.xe s
section
variable {X : Cx} {pos : Pos}
noncomputable def Zdl (i : Nat) : TG := fun v σ H Q => Q (σ.set i (some v)) H
theorem ZaE {i : Nat} {x : Str} (hN : X.N.Nodup) (hi : X.N[i]? = some x) (hx : Loc X.env.scope x) (hf : X.fn x = true \/ X.env.scope.names.lookup x = some .local := by first | exact .inl rfl | exact .inr rfl | assumption) : PG X (.Name x pos) (Zdl i) := by
 intro pins s σ H v u Q I r h
 exact wpAny_assign_Name (Zdv I hN hi hx r (fun s' I' => ⟨_, H, I', h⟩) hf)
noncomputable def gNil : TGs := fun vs σ H Q => vs = [] /\ Q σ H
noncomputable def gCons (t : TG) (u : TGs) : TGs := fun vs σ H Q => ∃ v r, vs = v :: r /\ t v σ H fun σ' H' => u r σ' H' Q
theorem ZfF : PGs X [] gNil := by
 intro pins s σ H vs us Q I r h
 obtain ⟨e, h⟩ := h
 subst e
 cases r
 exact assignInOrder_nil ⟨σ, H, I, h⟩
theorem Zcj {e : Expr} {es : List Expr} {t : TG} {u : TGs} (h1 : PG X e t) (h2 : PGs X es u)
    (hs : (assignEach (e :: es) X.env).map (·.2) = assign e X.env :: (assignEach es X.env).map (·.2) := by rfl) : PGs X (e :: es) (gCons t u) := by
  intro pins s σ H vs us Q I r h
  obtain ⟨v, vr, e1, h⟩ := h
  subst e1
  cases r with
  | cons r rr =>
    rw [hs]
    refine assignInOrder_cons (thn (h1 pins s σ H _ _ _ I r h) fun _ s1 ⟨σ1, H1, I1, q1⟩ => ?_)
    exact h2 pins s1 σ1 H1 _ _ Q I1 rr q1
noncomputable def gTup (K : PySem.W.Frag) (n : Nat) (t : TGs) : TG := fun v σ H Q => ∃ a xs, v = .ref a /\ SqT K H a xs /\ xs.length = n /\ t xs σ H Q
theorem pg_tup {es : List Expr} {k : Nat} {t : TGs} {n : Nat} (hc : X.calm = true) (h : PGs X es t)
  (hn : (assignEach es X.env).length = n := by rfl) (hst : (assignEach es X.env).findIdx? (·.1) = none := by rfl) : PG X (.Tuple es k pos) (gTup X.K n t) := by
 intro pins s σ H v u Q I r hw
 obtain ⟨a, xs, e1, hq, hl, hw⟩ := hw
 subst e1
 cases r
 obtain ⟨its, rv, ht, hz⟩ := I.tuple hq
 refine assign_Tuple_tuple (I.ok.hd hc) ht (by simp [hn, <- hl, rv.length]) hst fun h' hx => ?_
 have I1 : Inv X pins σ H { s with heap := h' } := I.kept (t' := s.toks) fun b o e => hx b o (Nat.ne_of_lt (Heap.lt_size e)) e
 exact h pins _ σ H xs _ Q I1 (by simpa using rv) hw
noncomputable def gSub (to ti : TE) (t : TSet) : TG := fun v σ H Q => to σ H fun o H1 => ti σ H1 fun i H2 => t o i v H2 fun H3 => Q σ H3
theorem ZdE {o i : Expr} {to ti : TE} {t : TSet} (ho : PE X o to) (hi : PE X i ti) (hs : PSet X t)
  (ha : ∀ v, assign (.Subscript o i pos) X.env v = (do
   let ov <- holding [v] (eval o X.env)
   let iv <- holding [v, ov] (eval i X.env)
   standAt pos
   holding [v, ov, iv] (setItem ov iv v)
   release [v, ov, iv] []) := by intro _; rfl) : PG X (.Subscript o i pos) (gSub to ti t) := by
 intro pins s σ H v u Q I r h
 rw [ha]
 refine wpAny_bind (wpAny_holding (thn (ho pins s σ H _ I h) fun ov s1 ⟨x, H1, I1, r1, q1⟩ => ?_))
 refine wpAny_bind (wpAny_holding (thn (hi pins s1 σ H1 _ I1 q1) fun iv s2 ⟨y, H2, I2, r2, q2⟩ => ?_))
 refine wpAny_bind (wpAny_standAt (wpAny_bind (wpAny_holding (thn (hs pins s2 σ H2 x y v ov iv u _ I2 r1 r2 r q2) fun _ s3 ⟨H3, I3, q3⟩ => ?_))))
 exact wpAny_release ⟨σ, H3, I3, q3⟩
noncomputable def tAsg (te : TE) (g : TG) : TS := fun D σ H => te σ H fun x H1 => g x σ H1 D.nx
theorem Zc4 {tg e : Expr} {te : TE} {g : TG} (he : PE X e te) (hg : PG X tg g) (hs : swapsWithSole [tg] e pos.line X.env = pure false := by rfl) (hw : swappedStores [tg] e X.env = pure none := by rfl)
  (h1 : (assignEach [tg] X.env).map (·.2) = [assign tg X.env] := by rfl) : PS X (.Assign [tg] e pos) (tAsg te g) := by
 intro pins s σ H D I h
 refine wpAny_Assign_stores (thn (he pins s σ H _ I h) fun v s1 ⟨x, H1, I1, r1, q1⟩ => ?_) hs hw
 rw [h1]
 exact thn (hg pins s1 σ H1 x v _ I1 r1 q1) fun _ s2 q => q
theorem Zcw {i : Nat} {x : Str} {e : Expr} {te : TE} {pos' : Pos} (hN : X.N.Nodup) (hi : X.N[i]? = some x) (hx : Loc X.env.scope x) (he : PE X e te) (hs : swapsWith e (some (.Name x pos')) pos.line X.env = pure false := by rfl) (hf : X.fn x = true \/ X.env.scope.names.lookup x = some .local := by first | exact .inl rfl | exact .inr rfl | assumption) :
  PS X (.Assign [.Name x pos'] e pos) (tAsg te (Zdl i)) := by
 intro pins s σ H D I h
 refine wpAny_Assign_Name (thn (he pins s σ H _ I h) fun v s1 ⟨y, H1, I1, r1, q1⟩ => ?_) hs
 exact Zdv I1 hN hi hx r1 (fun s2 I2 => ⟨_, H1, I2, q1⟩) hf
end
section
variable {X : Cx} {pos : Pos}
end
structure It where
 go : Nat -> Hp -> Prop
 yld : Nat -> Hp -> V -> Hp -> Prop
 stop : Nat -> Hp -> Prop
noncomputable def FpOk (X : Cx) (pins : List (Addr × Obj)) (H : Hp) (b : Addr) : Prop :=
 H b = none /\ b ≠ X.env.locals /\ b ∉ X.fs /\ (b ∈ X.ex \/ X.s₀.heap.objs.size <= b) /\ (∀ x c, X.env.cells.lookup x = some c -> c ≠ b) /\ ∀ p ∈ X.pn ++ pins, p.1 ≠ b
theorem Inv.fpOk {X : Cx} {pins : List (Addr × Obj)} {σ : St} {H H' : Hp} {s : Shared} {b : Addr} (I : Inv X pins σ H s) (hb : s.heap.objs.size <= b) (hn : H' b = none) : FpOk X pins H' b := by
 refine ⟨hn, Nat.ne_of_gt (Nat.lt_of_lt_of_le I.lt hb), I.nofs hb, .inr (Nat.le_trans I.sz hb), fun x c e z => ?_, fun p hp z => ?_⟩
 ·obtain ⟨v, q⟩ := I.cell x c e
  exact absurd (Nat.lt_of_lt_of_le q.lt (by rw [z]; exact hb)) (Nat.lt_irrefl _)
 ·exact absurd (Nat.lt_of_lt_of_le (Heap.lt_size (I.pin p hp).1) (by rw [z]; exact hb)) (Nat.lt_irrefl _)
structure Turn (P : Program) (w : World) (K : PySem.W.Frag) (tg : Expr) (J : It) (fp : List Addr) (it : Addr) (tn : Nat -> Heap -> Prop) : Prop where
 mem : it ∈ fp
 obj : ∀ i h, tn i h -> ∀ b ∈ fp, ∃ o, h.get? b = some o /\ ∀ v, o.data ≠ .cell v
 keep : ∀ i h h', tn i h -> (∀ b ∈ fp, ∀ o, h.get? b = some o -> h'.get? b = some o) -> tn i h'
 item : ∀ (X : Cx), X.prog = P -> X.w = w -> X.K = K -> X.calm = true -> ∀ (i : Nat) (pins : List (Addr × Obj)) (s : Shared) (σ : St) (H : Hp) (E : Value -> Shared -> Prop), Inv X pins σ H s -> (∀ b ∈ fp, FpOk X pins H b) -> tn i s.heap -> J.go i H ->
  wpAny (model P w) X.A (pyNext (.ref it)) (fun r s1 => ∃ u, r = some u /\
   wpAny (model P w) X.A (letOwnedTupleGo tg (.ref it) u) (fun _ s2 => ∃ x H', Inv X pins σ H' s2 /\ RelV x u /\ J.yld i H x H' /\ tn (i + 1) s2.heap /\ ∀ b ∈ fp, H' b = none) E s1) E s
 done : ∀ (X : Cx), X.prog = P -> X.w = w -> X.K = K -> X.calm = true -> ∀ (i : Nat) (pins : List (Addr × Obj)) (s : Shared) (σ : St) (H : Hp) (E : Value -> Shared -> Prop), Inv X pins σ H s -> (∀ b ∈ fp, FpOk X pins H b) -> tn i s.heap -> J.stop i H ->
  wpAny (model P w) X.A (pyNext (.ref it)) (fun r s1 => r = none /\ Inv X pins σ H s1) E s
 self : ∀ (A : Around) (i : Nat) (s : Shared) (Q : Value -> Shared -> Prop) (E : Value -> Shared -> Prop), tn i s.heap -> Q (.ref it) s -> wpAny (model P w) A (pyIter (.ref it)) Q E s
noncomputable abbrev TI := St -> Hp -> (It -> Hp -> Prop) -> Prop
noncomputable def PIE (X : Cx) (pins : List (Addr × Obj)) (σ : St) (tg : Expr) (R : It -> Hp -> Prop) (itv : Value) (s2 : Shared) : Prop :=
 ∃ (it : Addr) (fp : List Addr) (tn : Nat -> Heap -> Prop) (J : It) (H' : Hp), itv = .ref it /\ Inv X pins σ H' s2 /\ Turn X.prog X.w X.K tg J fp it tn /\ tn 0 s2.heap /\ (∀ b ∈ fp, FpOk X pins H' b) /\ R J H'
noncomputable def PI (X : Cx) (tg iter : Expr) (wi : TI) : Prop :=
 ∀ (pins : List (Addr × Obj)) (s : Shared) (σ : St) (H : Hp) (R : It -> Hp -> Prop), Inv X pins σ H s -> wi σ H R ->
  wpAny (model X.prog X.w) X.A (eval iter X.env) (fun v s1 => wpAny (model X.prog X.w) X.A (pyIter v) (PIE X pins σ tg R) X.xe s1) X.xe s
theorem ZkS {M : Model} {A : Around} {E : Value -> Shared -> Prop} {s : Shared} {tg : Expr} {it : Addr} {u : Value} {o : Obj} {n : String} {vs : Array Value} {Q : Unit -> Shared -> Prop} (ho : s.heap.get? it = some o) (hc : o.cls = .type n) (hd : o.data = .fields vs)
    (hn : ["enumerate", "zip", "dict_itemiterator", "dict_reverseitemiterator", "odict_iterator", "itertools.zip_longest", "itertools.pairwise"].contains n = false) (hQ : Q () s) : wpAny M A (letOwnedTupleGo tg (.ref it) u) Q E s := by
  unfold letOwnedTupleGo
  cases tg <;> first
    | exact wpAny_pure hQ
    | (cases u <;> first
        | exact wpAny_pure hQ
        | (refine wpAny_bind (wpAny_load ho ?_)
           rw [hc, hd]
           show wpAny M A (if (["enumerate", "zip", "dict_itemiterator", "dict_reverseitemiterator", "odict_iterator", "itertools.zip_longest", "itertools.pairwise"].contains n && vs[0]? == some (rawInt _)) = true then _ else _) Q E s
           rw [if_neg (by intro h; rw [hn, Bool.false_and] at h; cases h)]
           exact wpAny_pure hQ))
noncomputable def Itl (K : PySem.W.Frag) (a : Addr) : It :=
 ⟨fun i H => ∃ xs x, SqL K H a xs /\ xs[i]? = some x, fun i H x H' => H' = H /\ ∀ xs, SqL K H a xs -> xs[i]? = some x, fun i H => ∃ xs, SqL K H a xs /\ xs.length <= i⟩
noncomputable def Itt (K : PySem.W.Frag) (a : Addr) : It :=
 ⟨fun i H => ∃ xs x, SqT K H a xs /\ xs[i]? = some x, fun i H x H' => H' = H /\ ∀ xs, SqT K H a xs -> xs[i]? = some x, fun i H => ∃ xs, SqT K H a xs /\ xs.length <= i⟩
noncomputable def Itr (lo : Int) (n : Nat) : It := ⟨fun i _ => i < n, fun i H x H' => H' = H /\ x = .int (lo + i), fun i _ => n <= i⟩
theorem Zie {P : Program} {w : World} {K : PySem.W.Frag} {tg : Expr} (a it : Addr) : Turn P w K tg (Itl K a) [it] it (fun i h => h.IsListIter it a i) where
 mem := by simp
 obj := fun i h st b hb => by
  have e : b = it := by simpa using hb
  subst e
  obtain ⟨o, e, c, d⟩ := st
  exact ⟨o, e, fun v z => by rw [d] at z; cases z⟩
 keep := fun i h h' st k => st.at fun o e => k it (by simp) o e
 item := by
  intro X hP hw hK hc i pins s σ H E I hf st hg
  subst hP hw hK
  obtain ⟨xs, x, hq, hx⟩ := hg
  obtain ⟨its, rv, p, hz⟩ := I.list hq
  obtain ⟨u, hu, ru⟩ := rv.get hx
  obtain ⟨f0, f1, f2, f3, f4, f5⟩ := hf it (by simp)
  refine wpAny_pyNext_list_item st p.isList (x := u) (by simpa using hu) fun h' st' sb => ?_
  have I1 : Inv X pins σ H { s with heap := h' } := I.turned (t' := s.toks) (fun b o hb e => (sb.2 b hb).trans e) f0 f1 f3 f4 f5
  obtain ⟨o, e, c, d⟩ := id st'
  exact ⟨u, rfl, ZkS (s := { s with heap := h' }) e c d (by decide) ⟨x, H, I1, ru, ⟨rfl, fun ys hy => by rw [I.list_inj hy hq]; exact hx⟩, st', fun b hb => (hf b hb).1⟩⟩
 done := by
  intro X hP hw hK hc i pins s σ H E I hf st hg
  subst hP hw hK
  obtain ⟨xs, hq, hx⟩ := hg
  obtain ⟨its, rv, p, hz⟩ := I.list hq
  obtain ⟨f0, f1, f2, f3, f4, f5⟩ := hf it (by simp)
  have hl := rv.length
  exact wpAny_pyNext_list_end (I.ok.hd hc) st p.isList (by simp; lia) fun h' eb => ⟨rfl, I.turned (t' := s.toks) (fun b o hb e => eb b o hb e) f0 f1 f3 f4 f5⟩
 self := fun _ _ _ _ _ st h => wpAny_pyIter_listiter st h
theorem ZhJ {P : Program} {w : World} {K : PySem.W.Frag} {tg : Expr} (a it : Addr) : Turn P w K tg (Itt K a) [it] it (fun i h => h.IsTupleIter it a i) where
 mem := by simp
 obj := fun i h st b hb => by
  have e : b = it := by simpa using hb
  subst e
  obtain ⟨o, e, c, d⟩ := st
  exact ⟨o, e, fun v z => by rw [d] at z; cases z⟩
 keep := fun i h h' st k => st.at fun o e => k it (by simp) o e
 item := by
  intro X hP hw hK hc i pins s σ H E I hf st hg
  subst hP hw hK
  obtain ⟨xs, x, hq, hx⟩ := hg
  obtain ⟨its, rv, p, hz⟩ := I.tuple hq
  obtain ⟨u, hu, ru⟩ := rv.get hx
  obtain ⟨f0, f1, f2, f3, f4, f5⟩ := hf it (by simp)
  refine wpAny_pyNext_tuple_item st (show s.heap.IsTuple a its.toArray from p) (x := u) (by simpa using hu) fun h' st' sb => ?_
  have I1 : Inv X pins σ H { s with heap := h' } := I.turned (t' := s.toks) (fun b o hb e => (sb.2 b hb).trans e) f0 f1 f3 f4 f5
  obtain ⟨o, e, c, d⟩ := id st'
  exact ⟨u, rfl, ZkS (s := { s with heap := h' }) e c d (by decide) ⟨x, H, I1, ru, ⟨rfl, fun ys hy => by rw [I.tuple_inj hy hq]; exact hx⟩, st', fun b hb => (hf b hb).1⟩⟩
 done := by
  intro X hP hw hK hc i pins s σ H E I hf st hg
  subst hP hw hK
  obtain ⟨xs, hq, hx⟩ := hg
  obtain ⟨its, rv, p, hz⟩ := I.tuple hq
  obtain ⟨f0, f1, f2, f3, f4, f5⟩ := hf it (by simp)
  have hl := rv.length
  exact wpAny_pyNext_tuple_end (I.ok.hd hc) st (show s.heap.IsTuple a its.toArray from p) (by simp; lia) fun h' eb => ⟨rfl, I.turned (t' := s.toks) (fun b o hb e => eb b o hb e) f0 f1 f3 f4 f5⟩
 self := fun _ _ _ _ _ st h => wpAny_pyIter_tupleiter st h
theorem ZhK {P : Program} {w : World} {K : PySem.W.Frag} {tg : Expr} (it : Addr) (lo : Int) (n : Nat) : Turn P w K tg (Itr lo n) [it] it (fun i h => IsRangeIter h it (lo + (i : Nat) * 1) ((n : Int) - (i : Nat)) 1) where
 mem := by simp
 obj := fun i h st b hb => by
  have e : b = it := by simpa using hb
  subst e
  exact ⟨_, st, fun v z => by
   have z' : Data.fields _ = Data.cell v := z
   cases z'⟩
 keep := fun i h h' st k => k it (by simp) _ st
 item := by
  intro X hP hw hK hc i pins s σ H E I hf st hg
  subst hP hw hK
  obtain ⟨f0, f1, f2, f3, f4, f5⟩ := hf it (by simp)
  have W := Walks.range (prog := X.prog) (w := X.w) (I.ok.hd hc) it lo 1 n
  refine W.item i s _ _ hg st fun v h' tk hv st' kk => ?_
  obtain ⟨t, rfl⟩ := hv
  have I1 : Inv X pins σ H { s with heap := h', toks := tk } := I.turned (fun b o hb e => kk b o (by simpa using hb) e) f0 f1 f3 f4 f5
  refine ⟨_, rfl, ZkS (s := { s with heap := h', toks := tk }) (n := "range_iterator") st' rfl rfl (by decide) ⟨.int (lo + i), H, I1, ⟨t, ?_⟩, ⟨rfl, rfl⟩, st', fun b hb => (hf b hb).1⟩⟩
  rw [Int.mul_one]
 done := by
  intro X hP hw hK hc i pins s σ H E I hf st hg
  subst hP hw hK
  obtain ⟨f0, f1, f2, f3, f4, f5⟩ := hf it (by simp)
  exact wpAny_pyNext_range_end (I.ok.hd hc) st (by have : n <= i := hg; lia) fun h' eb => ⟨rfl, I.turned (t' := s.toks) (fun b o hb e => eb b o hb e) f0 f1 f3 f4 f5⟩
 self := fun _ _ _ _ _ st h => wpAny_pyIter_rangeiter st h
end L2
namespace L2
open PySem PySem.Spec PyProof.Rows
section
variable {X : Cx} {tg : Expr}
noncomputable def ZmF (K : PySem.W.Frag) (tl : TE) : TI := fun σ H R => tl σ H fun x H1 => ∃ a, x = .ref a /\ (∃ xs, SqL K H1 a xs) /\ R (Itl K a) H1
noncomputable def iTup (K : PySem.W.Frag) (tl : TE) : TI := fun σ H R => tl σ H fun x H1 => ∃ a, x = .ref a /\ (∃ xs, SqT K H1 a xs) /\ R (Itt K a) H1
theorem Zml {l : Expr} {tl : TE} (hl : PE X l tl) : PI X tg l (ZmF X.K tl) := by
 intro pins s σ H R I h
 refine thn (hl pins s σ H _ I h) fun v s1 ⟨x, H1, I1, r1, q1⟩ => ?_
 obtain ⟨a, e, ⟨xs, hq⟩, q⟩ := q1
 subst e
 cases r1
 obtain ⟨its, rv, p, hz⟩ := I1.list hq
 refine wpAny_pyIter_list p.isList ?_
 refine ⟨s1.heap.objs.size, [s1.heap.objs.size], _, _, H1, rfl, I1.kept (t' := s1.toks) fun b o e => Heap.get?_push_of_some _ e, Zie a _, ⟨_, Heap.get?_push_size _ rfl, rfl, rfl⟩, fun b hb => ?_, q⟩
 have e : b = s1.heap.objs.size := by simpa using hb
 subst e
 exact I1.fpOk (Nat.le_refl _) (I1.hok.fresh (Nat.le_refl _))
theorem pi_tup {l : Expr} {tl : TE} (hl : PE X l tl) : PI X tg l (iTup X.K tl) := by
 intro pins s σ H R I h
 refine thn (hl pins s σ H _ I h) fun v s1 ⟨x, H1, I1, r1, q1⟩ => ?_
 obtain ⟨a, e, ⟨xs, hq⟩, q⟩ := q1
 subst e
 cases r1
 obtain ⟨its, rv, p, hz⟩ := I1.tuple hq
 refine wpAny_pyIter_tuple (show s1.heap.IsTuple a its.toArray from p) ?_
 refine ⟨s1.heap.objs.size, [s1.heap.objs.size], _, _, H1, rfl, I1.kept (t' := s1.toks) fun b o e => Heap.get?_push_of_some _ e, ZhJ a _, ⟨_, Heap.get?_push_size _ rfl, rfl, rfl⟩, fun b hb => ?_, q⟩
 have e : b = s1.heap.objs.size := by simpa using hb
 subst e
 exact I1.fpOk (Nat.le_refl _) (I1.hok.fresh (Nat.le_refl _))
theorem Zkm {pins : List (Addr × Obj)} {σ : St} {H : Hp} {s : Shared} {R : It -> Hp -> Prop} {E : Value -> Shared -> Prop} {lo hi : Int} {t u v : Tok} {tk : Nat} (I : Inv X pins σ H s) (h1 : -(2 ^ 62) <= lo) (h2 : lo < 2 ^ 62) (h3 : -(2 ^ 62) <= hi) (h4 : hi < 2 ^ 62)
  (q : R (Itr lo (hi - lo).toNat) H) : wpAny (model X.prog X.w) X.A (pyIter (.ref s.heap.objs.size)) (PIE X pins σ tg R) E { s with heap := s.heap.push { cls := .type "range", data := .fields #[.int lo t, .int hi u, .int 1 v] }, toks := tk } := by
 refine wpAny_pyIter_range (IsRange.new ..) (small_one h1 h2 h3 h4) ?_
 have I1 : Inv X pins σ H { s with heap := s.heap.push { cls := .type "range", data := .fields #[.int lo t, .int hi u, .int 1 v] }, toks := tk } := I.kept fun b o e => Heap.get?_push_of_some _ e
 refine ⟨(s.heap.push { cls := .type "range", data := .fields #[.int lo t, .int hi u, .int 1 v] }).objs.size, [(s.heap.push { cls := .type "range", data := .fields #[.int lo t, .int hi u, .int 1 v] }).objs.size], _, _, H, rfl,
  I1.kept (t' := tk) fun b o e => Heap.get?_push_of_some _ e, ZhK _ lo (hi - lo).toNat, ?_, fun b hb => ?_, q⟩
 ·have e1 : lo + ((0 : Nat) : Int) * 1 = lo := by simp
  have e2 : (((hi - lo).toNat : Nat) : Int) - ((0 : Nat) : Int) = Builtin.Range.rangeSize lo hi 1 := by rw [rangeSize_one]; split <;> lia
  show IsRangeIter _ _ (lo + ((0 : Nat) : Int) * 1) ((((hi - lo).toNat : Nat) : Int) - ((0 : Nat) : Int)) 1
  rw [e1, e2]
  exact Heap.get?_push_size _ rfl
 ·have e : b = (s.heap.push { cls := .type "range", data := .fields #[.int lo t, .int hi u, .int 1 v] }).objs.size := by simpa using hb
  subst e
  exact I1.fpOk (Nat.le_refl _) (I1.hok.fresh (Nat.le_refl _))
noncomputable def ZmE (ta : TA) : TI := fun σ H R => ta σ H fun vs H1 => ∃ j : Int, vs = [.int j] /\ -(2 ^ 62) <= j /\ j < 2 ^ 62 /\ R (Itr 0 j.toNat) H1
theorem Zbs {a : Expr} {ta : TA} {p pos : Pos} (hg : Gl X "range") (hm : X.mg "range" = none) (ha : PA X [a] ta) (hs : starEach [a] X.env = [(false, eval a X.env)] := by rfl) : PI X tg (.Call (.Name "range" p) [a] [] pos) (ZmE ta) := by
  intro pins s σ H R I h
  refine Call_ (Zhu I hg hm boot_range (PyProof.Rows.callWith_type1 (thn (ha pos pins s σ H _ I h) fun us s1 ⟨vs, H1, I1, r1, q1⟩ => ?_) hs rfl))
  obtain ⟨j, e, q1, q2, q⟩ := q1
  subst e
  cases r1 with
  | cons r rr =>
    cases rr
    obtain ⟨t, rfl⟩ := r
    exact call_range_1 (Zkm I1 (by lia) (by lia) q1 q2 (by simpa using q))
noncomputable def tFor (wi : TI) (g : TG) (tb : TS) : TS := fun D σ H => wi σ H fun J H1 => ∃ W : Nat -> Nat -> St -> Hp -> Prop, (∃ m, W 0 m σ H1) /\ ∀ i m σ H, W i m σ H ->
 (J.stop i H /\ D.nx σ H) \/ (J.go i H /\ ∃ N : St -> Hp -> Prop, (∀ σ' H', N σ' H' -> ∃ m', m' < m /\ W (i + 1) m' σ' H') /\ ∀ x H', J.yld i H x H' -> g x σ H' fun σ2 H2 => tb { D with nx := N, ct := N, bk := D.nx } σ2 H2)
noncomputable def Zcn (fp : List Addr) (h : Heap) : List (Addr × Obj) := fp.filterMap fun b => (h.get? b).map fun o => (b, o)
theorem ZcI {fp : List Addr} {h : Heap} {b : Addr} {o : Obj} (hb : b ∈ fp) (e : h.get? b = some o) : (b, o) ∈ Zcn fp h := List.mem_filterMap.mpr ⟨b, hb, by rw [e]; rfl⟩
theorem Zgf {fp : List Addr} {h : Heap} {p : Addr × Obj} (hp : p ∈ Zcn fp h) : p.1 ∈ fp /\ h.get? p.1 = some p.2 := by
  obtain ⟨b, hb, e⟩ := List.mem_filterMap.mp hp
  cases q : h.get? b with
  | none => rw [q] at e; cases e
  | some o =>
    rw [q] at e
    have e' : (b, o) = p := Option.some.inj e
    subst e'
    exact ⟨hb, q⟩
theorem Inv.pinned {pins : List (Addr × Obj)} {σ : St} {H : Hp} {s : Shared} {fp : List Addr} (I : Inv X pins σ H s) (hf : ∀ b ∈ fp, FpOk X pins H b) (ho : ∀ b ∈ fp, ∃ o, s.heap.get? b = some o /\ ∀ v, o.data ≠ .cell v) : Inv X (pins ++ Zcn fp s.heap) σ H s :=
 I.pins_of fun p hp => (List.mem_append.mp hp).elim (fun z => I.pin p (List.mem_append_right _ z)) fun z => by
  obtain ⟨hb, e⟩ := Zgf z
  obtain ⟨f0, f1, f2, _⟩ := hf p.1 hb
  obtain ⟨o, e', d⟩ := ho p.1 hb
  rw [e] at e'; cases e'
  exact ⟨e, f0, f1, f2, d⟩
theorem Inv.unpinned {pins pl : List (Addr × Obj)} {σ : St} {H : Hp} {s : Shared} (I : Inv X (pins ++ pl) σ H s) : Inv X pins σ H s := I.pins_of fun p hp => I.pin p (List.mem_append_right _ (List.mem_append_left _ hp))
theorem Zb8 {iter : Expr} {body : List Stmt} {wi : TI} {g : TG} {tb : TS} {pos : Pos} (hp : PassesOwn (model X.prog X.w) X.A X.env X.xe) (hc : X.calm = true) (hi : PI X tg iter wi) (hg : PG X tg g) (hb : PSs X body tb)
  (hs : ∀ x, foldedSetIterable iter X.env x = pure x := by intro _; rfl) : PS X (.For tg iter body [] pos) (tFor wi g tb) := by
 intro pins s σ H D I h
 refine wpAny_For (thn (hi pins s σ H _ I h) fun v s1 h1 => thn h1 fun itv s2 h2 => ?_) hs
 obtain ⟨it, fp, tn, J, H2, e, I2, T, st2, f2, W, ⟨m0, w0⟩, turn⟩ := h2
 subst e
 have stat : ∀ {H' : Hp}, (∀ b ∈ fp, H' b = none) -> ∀ b ∈ fp, FpOk X pins H' b := fun hn b hb => ⟨hn b hb, (f2 b hb).2⟩
 refine codeAny_forLoop_any (fun n s' => ∃ i σ' H', Inv X pins σ' H' s' /\ tn i s'.heap /\ (∀ b ∈ fp, H' b = none) /\ W i n σ' H') ?_ m0 ⟨0, σ, H2, I2, st2, fun b hb => (f2 b hb).1, w0⟩
 rintro n s3 ⟨i, σ3, H3, I3, st3, fr3, w3⟩
 rcases turn i n σ3 H3 w3 with ⟨stop, qn⟩ | ⟨go, N, hN, step⟩
 ·refine wpAny_passesOwn hp (thn (T.done X rfl rfl rfl hc i pins s3 σ3 H3 X.xe I3 (stat fr3) st3 stop) fun r s4 ⟨hr, I4⟩ => ?_)
  subst hr
  exact wpAny_execs_nil ⟨σ3, H3, I4, qn⟩
 ·refine wpAny_passesOwn hp (thn (T.item X rfl rfl rfl hc i pins s3 σ3 H3 X.xe I3 (stat fr3) st3 go) fun r s4 ⟨u, hr, h4⟩ => ?_)
  subst hr
  refine wpAny_passesOwn hp (thn h4 fun _ s5 ⟨x, H5, I5, r5, y5, st5, fr5⟩ => ?_)
  have I5' := I5.pinned (stat fr5) (T.obj _ _ st5)
  refine wpAny_passesOwn hp (thn (hg _ s5 σ3 H5 x u _ I5' r5 (step x H5 y5)) fun _ s6 ⟨σ6, H6, I6, q6⟩ => ?_)
  refine wpAny_passesOwn hp (thn (hb _ s6 σ6 H6 _ I6 q6) fun f s7 q7 => ?_)
  have again : ∀ {σ7 : St} {H7 : Hp}, Inv X (pins ++ Zcn fp s5.heap) σ7 H7 s7 -> N σ7 H7 -> ∃ m, m < n /\ ∃ i σ' H', Inv X pins σ' H' s7 /\ tn i s7.heap /\ (∀ b ∈ fp, H' b = none) /\ W i m σ' H' := fun {σ7 H7} I7 n7 => by
   obtain ⟨m', hm, w7⟩ := hN σ7 H7 n7
   refine ⟨m', hm, i + 1, σ7, H7, I7.unpinned, T.keep _ _ _ st5 fun b hb o e => (I7.pin (b, o) (List.mem_append_right _ (List.mem_append_right _ (ZcI hb e)))).1, fun b hb => ?_, w7⟩
   obtain ⟨o, e, d⟩ := T.obj _ _ st5 b hb
   exact (I7.pin (b, o) (List.mem_append_right _ (List.mem_append_right _ (ZcI hb e)))).2.1
  cases f with
  | next => obtain ⟨σ7, H7, I7, n7⟩ := q7; exact again I7 n7
  | cont => obtain ⟨σ7, H7, I7, n7⟩ := q7; exact again I7 n7
  | brk => obtain ⟨σ7, H7, I7, q7⟩ := q7; exact ⟨σ7, H7, I7.unpinned, q7⟩
  | ret v => obtain ⟨x7, σ7, H7, I7, r7, q7⟩ := q7; exact ⟨x7, σ7, H7, I7.unpinned, r7, q7⟩
end
theorem Zdg {K : PySem.W.Frag} {a : Addr} {xs : List V} {g : TG} {tb : TS} {D : Ends} {σ : St} {H : Hp} (Pv : Nat -> St -> Hp -> Prop) (h0 : Pv 0 σ H) (hl : ∀ i σ H, i <= xs.length -> Pv i σ H -> SqL K H a xs)
  (hs : ∀ i x σ H, xs[i]? = some x -> Pv i σ H -> g x σ H fun σ2 H2 => tb { D with nx := Pv (i + 1), ct := Pv (i + 1), bk := D.nx } σ2 H2) (hd : ∀ σ H, Pv xs.length σ H -> D.nx σ H) :
  ∃ W : Nat -> Nat -> St -> Hp -> Prop, (∃ m, W 0 m σ H) /\ ∀ i m σ H, W i m σ H ->
   ((Itl K a).stop i H /\ D.nx σ H) \/ ((Itl K a).go i H /\ ∃ N : St -> Hp -> Prop, (∀ σ' H', N σ' H' -> ∃ m', m' < m /\ W (i + 1) m' σ' H') /\ ∀ x H', (Itl K a).yld i H x H' -> g x σ H' fun σ2 H2 => tb { D with nx := N, ct := N, bk := D.nx } σ2 H2) := by
 refine ⟨fun i m σ H => m = xs.length - i /\ i <= xs.length /\ Pv i σ H, ⟨xs.length, by simp, Nat.zero_le _, h0⟩, ?_⟩
 rintro i m σ H ⟨rfl, hi, p⟩
 have q := hl i σ H hi p
 by_cases hlt : i < xs.length
 ·refine .inr ⟨⟨xs, xs[i], q, by simp [hlt]⟩, Pv (i + 1), fun σ' H' p' => ⟨xs.length - (i + 1), by lia, rfl, hlt, p'⟩, fun x H' y => ?_⟩
  obtain ⟨e, y⟩ := y
  subst e
  exact hs i x σ _ (y xs q) p
 ·have e : i = xs.length := by lia
  subst e
  exact .inl ⟨⟨xs, q, Nat.le_refl _⟩, hd σ H p⟩
theorem ZmI {K : PySem.W.Frag} {a : Addr} {xs : List V} {g : TG} {tb : TS} {D : Ends} {σ : St} {H : Hp} (Pv : Nat -> St -> Hp -> Prop) (h0 : Pv 0 σ H) (hl : ∀ i σ H, i <= xs.length -> Pv i σ H -> SqT K H a xs)
  (hs : ∀ i x σ H, xs[i]? = some x -> Pv i σ H -> g x σ H fun σ2 H2 => tb { D with nx := Pv (i + 1), ct := Pv (i + 1), bk := D.nx } σ2 H2) (hd : ∀ σ H, Pv xs.length σ H -> D.nx σ H) :
  ∃ W : Nat -> Nat -> St -> Hp -> Prop, (∃ m, W 0 m σ H) /\ ∀ i m σ H, W i m σ H ->
   ((Itt K a).stop i H /\ D.nx σ H) \/ ((Itt K a).go i H /\ ∃ N : St -> Hp -> Prop, (∀ σ' H', N σ' H' -> ∃ m', m' < m /\ W (i + 1) m' σ' H') /\ ∀ x H', (Itt K a).yld i H x H' -> g x σ H' fun σ2 H2 => tb { D with nx := N, ct := N, bk := D.nx } σ2 H2) := by
 refine ⟨fun i m σ H => m = xs.length - i /\ i <= xs.length /\ Pv i σ H, ⟨xs.length, by simp, Nat.zero_le _, h0⟩, ?_⟩
 rintro i m σ H ⟨rfl, hi, p⟩
 have q := hl i σ H hi p
 by_cases hlt : i < xs.length
 ·refine .inr ⟨⟨xs, xs[i], q, by simp [hlt]⟩, Pv (i + 1), fun σ' H' p' => ⟨xs.length - (i + 1), by lia, rfl, hlt, p'⟩, fun x H' y => ?_⟩
  obtain ⟨e, y⟩ := y
  subst e
  exact hs i x σ _ (y xs q) p
 ·have e : i = xs.length := by lia
  subst e
  exact .inl ⟨⟨xs, q, Nat.le_refl _⟩, hd σ H p⟩
theorem Zc9 {lo : Int} {n : Nat} {g : TG} {tb : TS} {D : Ends} {σ : St} {H : Hp} (Pv : Nat -> St -> Hp -> Prop) (h0 : Pv 0 σ H)
  (hs : ∀ i σ H, i < n -> Pv i σ H -> g (.int (lo + i)) σ H fun σ2 H2 => tb { D with nx := Pv (i + 1), ct := Pv (i + 1), bk := D.nx } σ2 H2) (hd : ∀ σ H, Pv n σ H -> D.nx σ H) :
  ∃ W : Nat -> Nat -> St -> Hp -> Prop, (∃ m, W 0 m σ H) /\ ∀ i m σ H, W i m σ H ->
   ((Itr lo n).stop i H /\ D.nx σ H) \/ ((Itr lo n).go i H /\ ∃ N : St -> Hp -> Prop, (∀ σ' H', N σ' H' -> ∃ m', m' < m /\ W (i + 1) m' σ' H') /\ ∀ x H', (Itr lo n).yld i H x H' -> g x σ H' fun σ2 H2 => tb { D with nx := N, ct := N, bk := D.nx } σ2 H2) := by
 refine ⟨fun i m σ H => m = n - i /\ i <= n /\ Pv i σ H, ⟨n, by simp, Nat.zero_le _, h0⟩, ?_⟩
 rintro i m σ H ⟨rfl, hi, p⟩
 by_cases hlt : i < n
 ·refine .inr ⟨hlt, Pv (i + 1), fun σ' H' p' => ⟨n - (i + 1), by lia, rfl, hlt, p'⟩, fun x H' y => ?_⟩
  obtain ⟨e, y⟩ := y
  subst e y
  exact hs i σ _ hlt p
 ·have e : i = n := by lia
  subst e
  exact .inl ⟨Nat.le_refl _, hd σ H p⟩
end L2
namespace L2
open PySem PySem.Spec PyProof.Rows
noncomputable abbrev R2 := V -> V -> Hp -> VK -> Prop
noncomputable def OpR (X : Cx) (f : Value -> Value -> Sem Value) (r : R2) : Prop :=
 ∀ (pins : List (Addr × Obj)) (s : Shared) (σ : St) (H : Hp) (x y : V) (v u : Value) (Q : VK), Inv X pins σ H s -> RelV x v -> RelV y u -> r x y H Q ->
  wpAny (model X.prog X.w) X.A (f v u) (EP X pins σ Q) X.xe s
noncomputable def UnR (X : Cx) (f : Value -> Sem Value) (r : V -> Hp -> VK -> Prop) : Prop :=
 ∀ (pins : List (Addr × Obj)) (s : Shared) (σ : St) (H : Hp) (x : V) (v : Value) (Q : VK), Inv X pins σ H s -> RelV x v -> r x H Q ->
  wpAny (model X.prog X.w) X.A (f v) (EP X pins σ Q) X.xe s
noncomputable def Zct (X : Cx) (f : Value) (r : List V -> Hp -> VK -> Prop) : Prop :=
 ∀ (pins : List (Addr × Obj)) (s : Shared) (σ : St) (H : Hp) (xs : List V) (us : List Value) (Q : VK), Inv X pins σ H s -> Vals xs us -> r xs H Q ->
  wpAny (model X.prog X.w) X.A (call f us) (EP X pins σ Q) X.xe s
noncomputable def tOp (r : R2) (ta tb : TE) : TE := fun σ H Q => ta σ H fun x H1 => tb σ H1 fun y H2 => r x y H2 Q
noncomputable def tUn (r : V -> Hp -> VK -> Prop) (ta : TE) : TE := fun σ H Q => ta σ H fun x H1 => r x H1 Q
noncomputable def rI (C : Int -> Int -> Prop) (g : Int -> Int -> V) : R2 := fun x y H Q => ∃ i j, x = .int i /\ y = .int j /\ C i j /\ Q (g i j) H
noncomputable def rI0 (g : Int -> Int -> V) : R2 := fun x y H Q => ∃ i j, x = .int i /\ y = .int j /\ Q (g i j) H
noncomputable def rU (g : Int -> V) : V -> Hp -> VK -> Prop := fun x H Q => ∃ i, x = .int i /\ Q (g i) H
section
variable {X : Cx} {a b c : Expr} {ta tb tc : TE} {pos : Pos}
theorem binT (ha : PE X a ta) (hb : PE X b tb) {pins : List (Addr × Obj)} {s : Shared} {σ : St} {H : Hp} {R : V -> V -> Hp -> Prop} (I : Inv X pins σ H s)
  (h : ta σ H fun x H1 => tb σ H1 fun y H2 => R x y H2) {Q : Value -> Shared -> Prop} {f : Value -> Value -> Sem Value}
  (hf : ∀ v u s2 x y H2, Inv X pins σ H2 s2 -> RelV x v -> RelV y u -> R x y H2 -> wpAny (model X.prog X.w) X.A (f v u) Q X.xe s2) :
  wpAny (model X.prog X.w) X.A (eval a X.env) (fun v s₁ => wpAny (model X.prog X.w) X.A (eval b X.env) (fun u s₂ => wpAny (model X.prog X.w) X.A (f v u) Q X.xe s₂) X.xe s₁) X.xe s := by
 refine thn (ha pins s σ H _ I h) fun v s1 ⟨x, H1, I1, r1, q1⟩ => ?_
 refine thn (hb pins s1 σ H1 _ I1 q1) fun u s2 ⟨y, H2, I2, r2, q2⟩ => ?_
 exact hf v u s2 x y H2 I2 r1 r2 q2
theorem Zam {op : Operator} {r : R2} (ho : OpR X (binaryOp op) r) (ha : PE X a ta) (hb : PE X b tb) : PE X (.BinOp a op b pos) (tOp r ta tb) := by
 intro pins s σ H Q I h
 exact wpAny_BinOp (binT ha hb I h fun v u s2 x y H2 I2 rx ry q => ho pins s2 σ H2 x y v u Q I2 rx ry q)
theorem pe_un {op : UnaryOp} {r : V -> Hp -> VK -> Prop} (ho : UnR X (unaryOp op) r) (ha : PE X a ta) : PE X (.UnaryOp op a pos) (tUn r ta) := by
 intro pins s σ H Q I h
 exact UnaryOp_ (thn (ha pins s σ H _ I h) fun v s1 ⟨x, H1, I1, r1, q1⟩ => ho pins s1 σ H1 x v Q I1 r1 q1)
theorem opI {f : Value -> Value -> Sem Value} {C : Int -> Int -> Prop} {g : Int -> Int -> Int}
  (rule : ∀ (i j : Int) (t u : Tok) (s : Shared) (Q : Value -> Shared -> Prop) (E : Value -> Shared -> Prop), C i j -> Q (.int (g i j) s.toks) { s with toks := s.toks + 1 } -> wpAny (model X.prog X.w) X.A (f (.int i t) (.int j u)) Q E s) :
  OpR X f (rI C fun i j => .int (g i j)) := by
 intro pins s σ H x y v u Q I rx ry h
 obtain ⟨i, j, rfl, rfl, hc, q⟩ := h
 obtain ⟨t, rfl⟩ := rx
 obtain ⟨t', rfl⟩ := ry
 exact rule i j t t' s _ _ hc ⟨.int (g i j), H, I.tok _, ⟨_, rfl⟩, q⟩
theorem opI0 {f : Value -> Value -> Sem Value} {g : Int -> Int -> Int}
  (rule : ∀ (i j : Int) (t u : Tok) (s : Shared) (Q : Value -> Shared -> Prop) (E : Value -> Shared -> Prop), Q (.int (g i j) s.toks) { s with toks := s.toks + 1 } -> wpAny (model X.prog X.w) X.A (f (.int i t) (.int j u)) Q E s) :
  OpR X f (rI0 fun i j => .int (g i j)) := by
 intro pins s σ H x y v u Q I rx ry h
 obtain ⟨i, j, rfl, rfl, q⟩ := h
 obtain ⟨t, rfl⟩ := rx
 obtain ⟨t', rfl⟩ := ry
 exact rule i j t t' s _ _ ⟨.int (g i j), H, I.tok _, ⟨_, rfl⟩, q⟩
theorem opB0 {f : Value -> Value -> Sem Value} {g : Int -> Int -> Bool}
  (rule : ∀ (i j : Int) (t u : Tok) (s : Shared) (Q : Value -> Shared -> Prop) (E : Value -> Shared -> Prop), Q (.bool (g i j)) s -> wpAny (model X.prog X.w) X.A (f (.int i t) (.int j u)) Q E s) :
  OpR X f (rI0 fun i j => .bl (g i j)) := by
 intro pins s σ H x y v u Q I rx ry h
 obtain ⟨i, j, rfl, rfl, q⟩ := h
 obtain ⟨t, rfl⟩ := rx
 obtain ⟨t', rfl⟩ := ry
 exact rule i j t t' s _ _ ⟨.bl (g i j), H, I, rfl, q⟩
noncomputable def CPow (i j : Int) : Prop := 0 <= j /\ j <= 1000000 /\ i.natAbs < 2 ^ 64
noncomputable def CMul (i j : Int) : Prop := (-(2 ^ 64) < i /\ i < 2 ^ 64) \/ (-(2 ^ 64) < j /\ j < 2 ^ 64)
theorem CMul.ok {i j : Int} (h : CMul i j) : IntMulOk i j := by
 rcases h with ⟨h1, h2⟩ | ⟨h1, h2⟩
 ·exact .of_left (intBits_le_64 h1 h2)
 ·exact .of_right (intBits_le_64 h1 h2)
theorem Za7 : OpR X (binaryOp .Add) (rI0 fun i j => .int (i + j)) := opI0 fun _ _ _ _ _ _ _ q => add_int q
theorem Zge : OpR X (binaryOp .Sub) (rI0 fun i j => .int (i - j)) := opI0 fun _ _ _ _ _ _ _ q => sub_int q
theorem Zi3 : OpR X (binaryOp .Mult) (rI CMul fun i j => .int (i * j)) := opI fun _ _ _ _ _ _ _ hc q => mul_int q hc.ok
theorem ZbM : OpR X (binaryOp .Mod) (rI (fun _ j => 0 < j) fun i j => .int (i % j)) := opI fun i j _ _ _ _ _ hc q => by
 have h1 : (0 : Int) < j := hc
 exact mod_int' (by lia) (by rw [Int.fmod_eq_emod_of_nonneg i (by lia)]; exact q)
theorem Zhp : OpR X (binaryOp .Pow) (rI CPow fun i j => .int (i ^ j.toNat)) := opI fun _ _ _ _ _ _ _ hc q => pow_int_small hc.1 hc.2.1 hc.2.2 q
theorem unI {f : Value -> Sem Value} {g : Int -> Int}
  (rule : ∀ (i : Int) (t : Tok) (s : Shared) (Q : Value -> Shared -> Prop) (E : Value -> Shared -> Prop), Q (.int (g i) s.toks) { s with toks := s.toks + 1 } -> wpAny (model X.prog X.w) X.A (f (.int i t)) Q E s) :
  UnR X f (rU fun i => .int (g i)) := by
 intro pins s σ H x v Q I rx h
 obtain ⟨i, rfl, q⟩ := h
 obtain ⟨t, rfl⟩ := rx
 exact rule i t s _ _ ⟨.int (g i), H, I.tok _, ⟨_, rfl⟩, q⟩
theorem Zk4 : UnR X (unaryOp .USub) (rU fun i => .int (-i)) := unI fun _ _ _ _ _ q => neg_int q
end
noncomputable def scal : V -> V -> Bool
 | .non, .non => true | .non, .int _ => true | .int _, .non => true | .non, .bl _ => true | .bl _, .non => true | .non, .str _ => true | .str _, .non => true
 | .int _, .int _ => true | .bl _, .bl _ => true | .str _, .str _ => true | .byt _, .byt _ => true
 | .int _, .str _ => true | .str _, .int _ => true | .bl _, .str _ => true | .str _, .bl _ => true
 | _, _ => false
noncomputable def rEq : R2 := fun x y H Q => scal x y = true /\ Q (.bl (decide (x = y))) H
noncomputable def rNe : R2 := fun x y H Q => scal x y = true /\ Q (.bl (!decide (x = y))) H
theorem ZfR {i j : Int} : decide (V.int i = V.int j) = (i == j) := by
 rw [Bool.eq_iff_iff]
 simp
theorem Zlq {i j : Bool} : decide (V.bl i = V.bl j) = (i == j) := by
 rw [Bool.eq_iff_iff]
 simp
theorem ZfQ {i j : Str} : decide (V.str i = V.str j) = (i == j) := by
 rw [Bool.eq_iff_iff]
 simp
theorem Zjz {i j : Array UInt8} : decide (V.byt i = V.byt j) = (i.toList == j.toList) := by
 rw [Bool.eq_iff_iff]
 cases i
 cases j
 simp
section
variable {X : Cx} {a b c : Expr} {ta tb tc : TE} {pos : Pos}
theorem ZaN {pins : List (Addr × Obj)} {σ : St} {H : Hp} {s : Shared} {Q : VK} {k k' : Bool} (I : Inv X pins σ H s) (q : Q (.bl k) H) (e : k = k') : EP X pins σ Q (.bool k') s := by
 subst e
 exact ⟨.bl k, H, I, rfl, q⟩
theorem Zba : OpR X (compareOp .Eq) rEq := by
  intro pins s σ H x y v u Q I rx ry h
  obtain ⟨hs, q⟩ := h
  cases x with
  | non =>
    cases rx
    cases y with
    | non => cases ry; exact PySem.EqNone.eq_none_none (ZaN I q (by simp))
    | bl j => cases ry; exact PySem.EqNone.eq_none_bool (ZaN I q (by simp))
    | int j => obtain ⟨t', rfl⟩ := ry; exact PySem.EqNone.eq_none_int (ZaN I q (by simp))
    | str j => obtain ⟨t', rfl⟩ := ry; exact PySem.EqNone.eq_none_str (ZaN I q (by simp))
    | _ => exact absurd (show false = true from hs) Bool.false_ne_true
  | bl i =>
    cases rx
    cases y with
    | non => cases ry; exact PySem.EqNone.eq_bool_none (ZaN I q (by simp))
    | bl j => cases ry; exact eq_bool (ZaN I q Zlq)
    | str j => obtain ⟨t', rfl⟩ := ry; exact PySem.EqMixed.eq_bool_str (ZaN I q (by simp))
    | _ => exact absurd (show false = true from hs) Bool.false_ne_true
  | int i =>
    obtain ⟨t, rfl⟩ := rx
    cases y with
    | non => cases ry; exact PySem.EqNone.eq_int_none (ZaN I q (by simp))
    | int j => obtain ⟨t', rfl⟩ := ry; exact eq_int (ZaN I q ZfR)
    | str j => obtain ⟨t', rfl⟩ := ry; exact PySem.EqMixed.eq_int_str (ZaN I q (by simp))
    | _ => exact absurd (show false = true from hs) Bool.false_ne_true
  | str i =>
    obtain ⟨t, rfl⟩ := rx
    cases y with
    | non => cases ry; exact PySem.EqNone.eq_str_none (ZaN I q (by simp))
    | bl j => cases ry; exact PySem.EqMixed.eq_str_bool (ZaN I q (by simp))
    | int j => obtain ⟨t', rfl⟩ := ry; exact PySem.EqMixed.eq_str_int (ZaN I q (by simp))
    | str j => obtain ⟨t', rfl⟩ := ry; exact eq_str (ZaN I q ZfQ)
    | _ => exact absurd (show false = true from hs) Bool.false_ne_true
  | byt i =>
    obtain ⟨t, rfl⟩ := rx
    cases y with
    | byt j => obtain ⟨t', rfl⟩ := ry; exact PySem.W.eq_bytes (ZaN I q Zjz)
    | _ => exact absurd (show false = true from hs) Bool.false_ne_true
  | _ => cases y <;> exact absurd (show false = true from hs) Bool.false_ne_true
theorem ZhR : OpR X (compareOp .NotEq) rNe := by
  intro pins s σ H x y v u Q I rx ry h
  obtain ⟨hs, q⟩ := h
  cases x with
  | non =>
    cases rx
    cases y with
    | non => cases ry; exact PySem.EqNone.ne_none_none (ZaN I q (by simp))
    | bl j => cases ry; exact PySem.EqNone.ne_none_bool (ZaN I q (by simp))
    | int j => obtain ⟨t', rfl⟩ := ry; exact PySem.EqNone.ne_none_int (ZaN I q (by simp))
    | str j => obtain ⟨t', rfl⟩ := ry; exact PySem.EqNone.ne_none_str (ZaN I q (by simp))
    | _ => exact absurd (show false = true from hs) Bool.false_ne_true
  | bl i =>
    cases rx
    cases y with
    | non => cases ry; exact PySem.EqNone.ne_bool_none (ZaN I q (by simp))
    | bl j => cases ry; exact ne_bool (ZaN I q (congrArg not Zlq))
    | str j => obtain ⟨t', rfl⟩ := ry; exact PySem.EqMixed.ne_bool_str (ZaN I q (by simp))
    | _ => exact absurd (show false = true from hs) Bool.false_ne_true
  | int i =>
    obtain ⟨t, rfl⟩ := rx
    cases y with
    | non => cases ry; exact PySem.EqNone.ne_int_none (ZaN I q (by simp))
    | int j => obtain ⟨t', rfl⟩ := ry; exact ne_int (ZaN I q (congrArg not ZfR))
    | str j => obtain ⟨t', rfl⟩ := ry; exact PySem.EqMixed.ne_int_str (ZaN I q (by simp))
    | _ => exact absurd (show false = true from hs) Bool.false_ne_true
  | str i =>
    obtain ⟨t, rfl⟩ := rx
    cases y with
    | non => cases ry; exact PySem.EqNone.ne_str_none (ZaN I q (by simp))
    | bl j => cases ry; exact PySem.EqMixed.ne_str_bool (ZaN I q (by simp))
    | int j => obtain ⟨t', rfl⟩ := ry; exact PySem.EqMixed.ne_str_int (ZaN I q (by simp))
    | str j => obtain ⟨t', rfl⟩ := ry; exact ne_str (ZaN I q (congrArg not ZfQ))
    | _ => exact absurd (show false = true from hs) Bool.false_ne_true
  | byt i =>
    obtain ⟨t, rfl⟩ := rx
    cases y with
    | byt j => obtain ⟨t', rfl⟩ := ry; exact PySem.W.ne_bytes (ZaN I q (congrArg not Zjz))
    | _ => exact absurd (show false = true from hs) Bool.false_ne_true
  | _ => cases y <;> exact absurd (show false = true from hs) Bool.false_ne_true
theorem ZkD : OpR X (compareOp .Lt) (rI0 fun i j => .bl (decide (i < j))) := opB0 fun _ _ _ _ _ _ _ q => lt_int q
theorem op_le : OpR X (compareOp .LtE) (rI0 fun i j => .bl (decide (i <= j))) := opB0 fun _ _ _ _ _ _ _ q => le_int q
theorem op_gt : OpR X (compareOp .Gt) (rI0 fun i j => .bl (decide (j < i))) := opB0 fun _ _ _ _ _ _ _ q => gt_int q
theorem Zi4 : OpR X (compareOp .In) (fun x y H Q => ∃ i j, x = .str i /\ y = .str j /\ Q (.bl (!(Builtin.Str.occurrences j i 0 j.length 1).isEmpty)) H) := by
 intro pins s σ H x y v u Q I rx ry h
 obtain ⟨i, j, rfl, rfl, q⟩ := h
 obtain ⟨t, rfl⟩ := rx
 obtain ⟨t', rfl⟩ := ry
 exact in_str (ZaN I q rfl)
theorem op_isN : OpR X (compareOp .Is) (fun x y H Q => y = .non /\ Q (.bl (decide (x = .non))) H) := by
 intro pins s σ H x y v u Q I rx ry h
 obtain ⟨rfl, q⟩ := h
 cases ry
 refine is_none_gen (ZaN I q ?_)
 cases x <;> first
  | (cases rx; rfl)
  | (obtain ⟨t, rfl⟩ := rx; rfl)
theorem Zmt : OpR X (compareOp .IsNot) (fun x y H Q => y = .non /\ Q (.bl (!decide (x = .non))) H) := by
 intro pins s σ H x y v u Q I rx ry h
 obtain ⟨rfl, q⟩ := h
 cases ry
 refine isnot_none_gen (ZaN I q ?_)
 cases x <;> first
  | (cases rx; rfl)
  | (obtain ⟨t, rfl⟩ := rx; rfl)
theorem Zao (b : Expr) {op : CmpOp} (h : op ≠ .In := by decide) (h2 : op ≠ .NotIn := by decide) : behindInMarks op b = false := by
 have e1 : (op == CmpOp.In) = false := by cases op <;> first | rfl | exact absurd rfl h
 have e2 : (op == CmpOp.NotIn) = false := by cases op <;> first | rfl | exact absurd rfl h2
 cases b <;> simp [behindInMarks, e1, e2]
theorem ZcS {op : CmpOp} {r : R2} (ho : OpR X (compareOp op) r) (ha : PE X a ta) (hb : PE X b tb) (hm : behindInMarks op b = false) : PE X (.Compare a [op] [b] pos) (tOp r ta tb) := by
 intro pins s σ H Q I h
 exact wpAny_Compare1 (binT ha hb I h fun v u s2 x y H2 I2 rx ry q => ho pins s2 σ H2 x y v u Q I2 rx ry q) hm
noncomputable def ZgF (t : TE) : TT := fun σ H Q => t σ H fun x H' => ∃ k, x = .bl k /\ Q k H'
theorem Zal {op : CmpOp} {r : R2} (ho : OpR X (compareOp op) r) (ha : PE X a ta) (hb : PE X b tb) (hm : behindInMarks op b = false) : PT X (.Compare a [op] [b] pos) (ZgF (tOp r ta tb)) := by
 intro pins s σ H Q I h
 refine wpAny_isTrue_Compare1 (thn (ha pins s σ H _ I h) fun v s1 ⟨x, H1, I1, r1, q1⟩ => thn (hb pins s1 σ H1 _ I1 q1) fun u s2 ⟨y, H2, I2, r2, q2⟩ =>
  thn (ho pins s2 σ H2 x y v u _ I2 r1 r2 q2) fun c s3 ⟨z, H3, I3, r3, k, e, q3⟩ => ?_) hm
 subst e
 cases r3
 exact wpAny_truthy_bool ⟨H3, I3, q3⟩
noncomputable def Zk7 (r r' : R2) (ta tb tc : TE) : TE := fun σ H Q => ta σ H fun x H1 => tb σ H1 fun y H2 => r x y H2 fun z H3 => ∃ k, z = .bl k /\
 (if k = true then tc σ H3 fun w' H4 => r' y w' H4 Q else Q (.bl false) H3)
theorem Zkp {op op' : CmpOp} {r r' : R2} (ho : OpR X (compareOp op) r) (ho' : OpR X (compareOp op') r') (ha : PE X a ta) (hb : PE X b tb) (hc : PE X c tc)
    (hm : lastMarks [op, op'] [b, c] = false := by with_unfolding_all rfl) : PT X (.Compare a [op, op'] [b, c] pos) (ZgF (Zk7 r r' ta tb tc)) := by
  intro pins s σ H Q I h
  refine isTrue_chain (thn (ha pins s σ H _ I h) fun v s1 ⟨x, H1, I1, r1, q1⟩ => test_link (thn (hb pins s1 σ H1 _ I1 q1) fun u s2 ⟨y, H2, I2, r2, q2⟩ =>
    thn (ho pins s2 σ H2 x y v u _ I2 r1 r2 q2) fun d s3 ⟨z, H3, I3, r3, k, e, q3⟩ => ?_)) hm
  subst e
  cases r3
  refine wpAny_truthy_bool ?_
  cases k with
  | false =>
    obtain ⟨k', e', q'⟩ := q3
    cases e'
    exact ite_ff ⟨H3, I3, q'⟩
  | true =>
    refine ite_tt (test_last (thn (hc pins s3 σ H3 _ I3 q3) fun w' s4 ⟨z', H4, I4, r4, q4⟩ => thn (ho' pins s4 σ H4 y z' u w' _ I4 r2 r4 q4) fun d' s5 ⟨z2, H5, I5, r5, k2, e2, q5⟩ => ?_))
    subst e2
    cases r5
    exact wpAny_truthy_bool ⟨H5, I5, q5⟩
theorem Zgl : (sizeLine : Nat) < 2 ^ 63 := by rw [sizeLine_eq]; decide
theorem ZhS : OpR X (binaryOp .Add) (fun x y H Q => ∃ i j, x = .str i /\ y = .str j /\ i.length + j.length <= sizeLine /\ Q (.str (i ++ j)) H) := by
 intro pins s σ H x y v u Q I rx ry h
 obtain ⟨i, j, rfl, rfl, hz, q⟩ := h
 obtain ⟨t, rfl⟩ := rx
 obtain ⟨t', rfl⟩ := ry
 exact add_str (fun t' tk => ⟨.str (i ++ j), H, I.tok _, ⟨_, rfl⟩, q⟩) hz
theorem Zfm {x : V} {us : List Value} (r : Vals [x] us) : ∃ u, us = [u] /\ RelV x u := by
 cases r with
 | cons r1 r2 => cases r2; exact ⟨_, rfl, r1⟩
theorem vals2 {x y : V} {us : List Value} (r : Vals [x, y] us) : ∃ u w', us = [u, w'] /\ RelV x u /\ RelV y w' := by
  cases r with
  | cons r1 r2 =>
    cases r2 with
    | cons r3 r4 => cases r4; exact ⟨_, _, rfl, r1, r3⟩
theorem Zk0 : Zct X (.builtin "abs") (fun xs H Q => ∃ i, xs = [.int i] /\ Q (.int (if i < 0 then -i else i)) H) := by
 intro pins s σ H xs us Q I r h
 obtain ⟨i, rfl, q⟩ := h
 obtain ⟨u, rfl, t, rfl⟩ := Zfm r
 exact call_abs_int fun u tk => ⟨.int (if i < 0 then -i else i), H, I.tok _, ⟨_, rfl⟩, q⟩
theorem ZjI (hc : X.calm = true) : Zct X (.builtin "min") (fun xs H Q => ∃ i j, xs = [.int i, .int j] /\ Q (.int (if j < i then j else i)) H) := by
 intro pins s σ H xs us Q I r h
 obtain ⟨i, j, rfl, q⟩ := h
 obtain ⟨u, w', rfl, ⟨t, rfl⟩, ⟨t', rfl⟩⟩ := vals2 r
 refine min_two_ints (I.ok.hd hc) fun h' tk k => ⟨_, H, I.kept k, ?_, q⟩
 by_cases hj : j < i
 ·rw [if_pos hj, if_pos hj]; exact ⟨_, rfl⟩
 ·rw [if_neg hj, if_neg hj]; exact ⟨_, rfl⟩
theorem ZjL : Zct X (.type "int") (fun xs H Q => (∃ i, xs = [.int i] /\ Q (.int i) H) \/ ∃ k, xs = [.bl k] /\ Q (.int (if k then 1 else 0)) H) := by
 intro pins s σ H xs us Q I r h
 rcases h with ⟨i, rfl, q⟩ | ⟨k, rfl, q⟩
 ·obtain ⟨u, rfl, t, rfl⟩ := Zfm r
  exact call_int_int ⟨.int i, H, I, ⟨_, rfl⟩, q⟩
 ·obtain ⟨u, rfl, r1⟩ := Zfm r
  cases r1
  exact call_int_bool ⟨.int (if k then 1 else 0), H, I.tok _, ⟨_, rfl⟩, q⟩
theorem Zgt : Zct X (.type "str") (fun xs H Q => ∃ i, xs = [.int i] /\ i.natAbs.log2 < 1920 /\ Q (.str (toString i)) H) := by
 intro pins s σ H xs us Q I r h
 obtain ⟨i, rfl, hz, q⟩ := h
 obtain ⟨u, rfl, t, rfl⟩ := Zfm r
 exact PySem.P.str_of_int hz ⟨.str _, H, I.tok _, ⟨_, rfl⟩, q⟩
noncomputable def LenV (K : PySem.W.Frag) (x : V) (H : Hp) (n : Nat) : Prop :=
 match x with
 | .str y => y.length <= sizeLine /\ n = y.length
 | .byt y => y.size <= sizeLine /\ n = y.size
 | .ref p => (∃ xs, SqL K H p xs /\ n = xs.length) \/ ∃ xs, SqT K H p xs /\ n = xs.length
 | _ => False
theorem ZkZ : Zct X (.builtin "len") (fun xs H Q => ∃ x n, xs = [x] /\ LenV X.K x H n /\ Q (.int n) H) := by
  intro pins s σ H xs us Q I r h
  obtain ⟨x, n, rfl, e, q⟩ := h
  obtain ⟨u, rfl, rx⟩ := Zfm r
  have hl := Zgl
  have hs : sizeLine = 16777216 := sizeLine_eq
  cases x with
  | str y =>
    obtain ⟨t, rfl⟩ := rx
    obtain ⟨hy, e'⟩ : y.length <= sizeLine /\ n = y.length := e
    subst e'
    exact len_str (by lia) ⟨.int _, H, I.tok _, ⟨_, rfl⟩, q⟩
  | byt y =>
    obtain ⟨t, rfl⟩ := rx
    obtain ⟨hy, e'⟩ : y.size <= sizeLine /\ n = y.size := e
    subst e'
    exact PySem.W.len_bytes (by lia) ⟨.int _, H, I.tok _, ⟨_, rfl⟩, q⟩
  | ref p =>
    cases rx
    have e' : (∃ xs, SqL X.K H p xs /\ n = xs.length) \/ ∃ xs, SqT X.K H p xs /\ n = xs.length := e
    rcases e' with ⟨xs, hx, e'⟩ | ⟨xs, hx, e'⟩
    · subst e'
      obtain ⟨its, r', pl, hz⟩ := I.list hx
      have hlen := r'.length
      exact Calls.call_len_list pl.isList (by simp only [List.size_toArray]; lia) ⟨.int xs.length, H, I.tok _, ⟨_, by simp only [List.size_toArray]; rw [hlen]⟩, q⟩
    · subst e'
      obtain ⟨its, r', pl, hz⟩ := I.tuple hx
      have hlen := r'.length
      exact len_tuple pl (by simp only [List.size_toArray]; lia) ⟨.int xs.length, H, I.tok _, ⟨_, by simp only [List.size_toArray]; rw [hlen]⟩, q⟩
  | _ => exact (show False from e).elim
end
end L2
namespace L2
open PySem PySem.Spec PyProof.Rows
structure ObjM (h : Heap) (x dx C : Addr) (mA : Str -> Option Value) : Prop where
 obj : h.get? x = some (PySem.W.instObj C dx)
 ns : h.Ns1 dx mA
 ne : dx ≠ x
theorem Zjc {h : Heap} {dx : Addr} {mA : Str -> Option Value} (n : h.Ns1 dx mA) : ∃ od, h.get? dx = some od /\ ∀ name, PySem.W.lookIn name od = some (mA name) := by
 obtain ⟨o, es, ep, ho, hd, hk, _, hm⟩ := n
 refine ⟨o, ho, fun name => ?_⟩
 have e := hm name
 unfold nsFind findBy at e
 rw [<- Array.find?_toList] at e
 unfold PySem.W.lookIn
 rw [hd]
 dsimp only
 split
 ·rename_i y q
  rw [q] at e
  exact congrArg some e
 ·rename_i q
  rw [q] at e
  have a : es.toList.any (·.refKey) = false := by
   rw [List.any_eq_false]
   intro y hy
   obtain ⟨z, t, hkey⟩ := hk y (Array.mem_toList_iff.mp hy)
   simp [DictEntry.refKey, hkey]
  have a' : ¬ es.toList.any (·.refKey) = true := by rw [a]; exact Bool.false_ne_true
  rw [if_neg a']
  exact congrArg some e
theorem ObjM.look {h : Heap} {x dx C : Addr} {mA : Str -> Option Value} (I : ObjM h x dx C mA) : ∃ od, PySem.W.InstAt h x (PySem.W.instObj C dx) C (some od) /\ ∀ name, PySem.W.lookIn name od = some (mA name) :=
 let ⟨od, ho, hl⟩ := Zjc I.ns
 ⟨od, ⟨I.obj, rfl, rfl, ho⟩, hl⟩
section
variable {prog : Program} {w : World} {A : Around} {E : Value -> Shared -> Prop} {s : Shared} {K : PySem.W.Frag} {x dx C f : Addr} {mA : Str -> Option Value} {name : Str} {v : Value}
end
theorem RelO.some_of {v : V} {o : Option Value} (r : RelO (some v) o) : ∃ u, o = some u /\ RelV v u := by
 cases o with
 | none => exact (show False from r).elim
 | some u => exact ⟨u, rfl, r⟩
section
variable {P : Program} {w : World} {H H' : Hp} {h h' : Heap} {a C dx : Addr} {fs fs' : List (Str × V)}
theorem ZmD (hok : HOk P w H h) (e : H a = some (.ins C dx fs)) : ∃ mA, ObjM h a dx C mA /\ (∀ f, RelO (fs.lookup f) (mA f)) /\ PySem.Within mA (fs.map (·.1)) /\ fs.length <= 1000 /\ H dx = some (.own a) := by
 obtain ⟨d, z, ne, ob, mA, n, r, q⟩ := (show ObjOk P w H h a (.ins C dx fs) from hok a _ e)
 exact ⟨mA, ⟨ob, n, ne⟩, r, q, z, d⟩
end
structure Cls (K : PySem.W.Frag) (C : Addr) : Prop where
 pg : PySem.W.plainGet K C Str.empty = true
 hd : PySem.W.hasDictIn K C = true
 po : PySem.W.plainOver K C = true
 sa : PySem.W.findIn K (.ref C) "__setattr__" = some (some (.builtin "object.__setattr__"))
theorem Cls.get {K : PySem.W.Frag} {C : Addr} (c : Cls K C) (f : Str) : PySem.W.plainGet K C f = true := c.pg
section
variable {X : Cx} {pins : List (Addr × Obj)} {σ : St} {H : Hp} {s : Shared} {a C dx : Addr} {fs : List (Str × V)} {f : Str} {v : V} {A : Around} {E : Value -> Shared -> Prop}
end
section
variable {X : Cx} {o e value : Expr} {f : Str} {pos pos' tpos : Pos} {ta tv : TE}
end
section
variable {X : Cx} {pins : List (Addr × Obj)} {σ : St} {H : Hp} {s : Shared} {A : Around} {E : Value -> Shared -> Prop} {Q : Value -> Shared -> Prop} {c : Value} {b : Bool}
inductive TyOf (K : PySem.W.Frag) (H : Hp) : V -> Value -> Prop where
 | non : TyOf K H .non (.type "NoneType")
 | bl (x : Bool) : TyOf K H (.bl x) (.type "bool")
 | int (i : Int) : TyOf K H (.int i) (.type "int")
 | str (x : Str) : TyOf K H (.str x) (.type "str")
 | flt (x : UInt64) : TyOf K H (.flt x) (.type "float")
 | lst {a : Addr} {xs : List V} (e : H a = some (.lst xs)) : TyOf K H (.ref a) (.type "list")
 | frz {a : Addr} {o : Obj} {xs : List V} (e : H a = some (.frz o (.lst xs))) : TyOf K H (.ref a) (.type "list")
 | tup {a : Addr} {xs : List V} (e : H a = some (.tup xs)) : TyOf K H (.ref a) (.type "tuple")
 | dK {a : Addr} {kvs : List (Key × V)} (e : H a = some (.dK kvs)) : TyOf K H (.ref a) (.type "dict")
 | dT {a : Addr} {kvs : List (List Key × V)} (e : H a = some (.dT kvs)) : TyOf K H (.ref a) (.type "dict")
 | ins {a C dx : Addr} {fs : List (Str × V)} (e : H a = some (.ins C dx fs)) (cl : Cls K C) (ha : PySem.W.findIn K (.ref C) "__class__" = some (some (.builtin "object.__class__")))
   (hn : PySem.W.specialIn K (.builtin "object.__class__") "__get__" = some (some (.builtin "getset_descriptor.__get__"))) (htk : PySem.W.takesIn K (.builtin "object.__class__") = some true)
   (hm : PySem.W.mroIn K C (.type "object") = some true) : TyOf K H (.ref a) (.ref C)
theorem Zjr {x : V} {u t : Value} (I : Inv X pins σ H s) (rx : RelV x u) (ty : TyOf X.K H x t) (e : PySem.W.kitOne X.K t c = some b) (h : ∀ tk, Q (.bool b) { s with toks := tk }) :
    wpAny (model X.prog X.w) A (call (.builtin "isinstance") [u, c]) Q E s := by
  cases ty with
  | non => cases (show u = Value.none from rx); exact PySem.W.kia_one PySem.W.kitx_none I.kIn True.intro e (fun z => nomatch z) h
  | bl y => cases (show u = Value.bool y from rx); exact PySem.W.kia_one PySem.W.kitx_bool I.kIn True.intro e (fun z => nomatch z) h
  | int i => obtain ⟨t, q⟩ := (show ∃ t, u = Value.int i t from rx); cases q; exact PySem.W.kia_one PySem.W.kitx_int I.kIn True.intro e (fun z => nomatch z) h
  | str y => obtain ⟨t, q⟩ := (show ∃ t, u = Value.str y t from rx); cases q; exact PySem.W.kia_one PySem.W.kitx_str I.kIn True.intro e (fun z => nomatch z) h
  | flt y => obtain ⟨t, q⟩ := (show ∃ t, u = Value.float y t from rx); cases q; exact PySem.W.kia_one PySem.W.kitx_float I.kIn True.intro e (fun z => nomatch z) h
  | @lst a xs ea =>
    cases (show u = Value.ref a from rx)
    obtain ⟨_, _, n, _, h1⟩ := (show ObjOk X.prog X.w H s.heap a (.lst xs) from I.hok a _ ea)
    exact PySem.W.kia_one PySem.W.kitx_list I.kIn ⟨_, h1, rfl⟩ e (fun z => nomatch z) h
  | @frz a ob xs ea =>
    cases (show u = Value.ref a from rx)
    obtain ⟨_, _, _, n, _, h1⟩ := (show ObjOk X.prog X.w H s.heap a (.frz ob (.lst xs)) from I.hok a _ ea)
    exact PySem.W.kia_one PySem.W.kitx_list I.kIn ⟨_, h1, rfl⟩ e (fun z => nomatch z) h
  | @tup a xs ea =>
    cases (show u = Value.ref a from rx)
    obtain ⟨_, _, _, p⟩ := (show ObjOk X.prog X.w H s.heap a (.tup xs) from I.hok a _ ea)
    obtain ⟨o, h1, h2, _⟩ := p
    exact PySem.W.kia_one PySem.W.kitx_tuple I.kIn ⟨o, h1, h2⟩ e (fun z => nomatch z) h
  | @dK a kvs ea =>
    cases (show u = Value.ref a from rx)
    obtain ⟨_, _, vs, _, p⟩ := (show ObjOk X.prog X.w H s.heap a (.dK kvs) from I.hok a _ ea)
    obtain ⟨o, es, ep, h1, h2, _⟩ := p
    exact PySem.W.kia_one PySem.W.kitx_dict I.kIn ⟨o, h1, h2.1⟩ e (fun z => nomatch z) h
  | @dT a kvs ea =>
    cases (show u = Value.ref a from rx)
    obtain ⟨_, _, xs, _, o, es, ep, h1, h2, _⟩ := (show ObjOk X.prog X.w H s.heap a (.dT kvs) from I.hok a _ ea)
    exact PySem.W.kia_one PySem.W.kitx_dict I.kIn ⟨o, h1, h2.1⟩ e (fun z => nomatch z) h
  | @ins a C dx fs ea cl ha hn htk hm =>
    cases (show u = Value.ref a from rx)
    obtain ⟨mA, O, _⟩ := ZmD I.hok ea
    obtain ⟨od, J, _⟩ := O.look
    exact PySem.W.kia_one (PySem.W.kitx_own (cl.get _) cl.hd ha hn htk hm) I.kIn J e (fun z => nomatch z) h
end
end L2
namespace L2
open PySem PySem.Spec PyProof.Rows
structure Room (k : Nat) (A : Around) : Prop where
 hd : A.handled = none
 dp : A.depth + 3 * k + 5 < recursionLimit
 un : A.units + 16 * k + 200 < cLine
theorem Room.mono {j k : Nat} {A : Around} (r : Room k A) (h : j <= k) : Room j A := ⟨r.hd, by have := r.dp; lia, by have := r.un; lia⟩
theorem Room.deeper {k : Nat} {A : Around} (r : Room (k + 1) A) (env : Env) : Room k (A.deeper env) :=
 ⟨r.hd, by have := r.dp; show A.depth + 1 + 3 * k + 5 < _; lia, by have := r.un; show A.units + 3 + 16 * k + 200 < _; lia⟩
theorem Room.depth {k : Nat} {A : Around} (r : Room k A) : A.depth < recursionLimit := by have := r.dp; lia
theorem Room.units {k : Nat} {A : Around} (r : Room k A) : A.units + 64 < cLine := by have := r.un; lia
noncomputable def tNil : TA := fun _ H Q => Q [] H
noncomputable def Zb6 (ta : TE) (tr : TA) : TA := fun σ H Q => ta σ H fun x H1 => tr σ H1 fun xs H2 => Q (x :: xs) H2
section
variable {X : Cx} {e : Expr} {es : List Expr} {te : TE} {t : TA} {pos : Pos}
theorem Zab : PA X [] tNil := fun _ _ _ _ H Q I h => Calls.spliced_nil ⟨[], H, I, .nil, h⟩
theorem ZcA (ha : PE X e te) (hr : PA X es t) (hs : starEach (e :: es) X.env = (false, eval e X.env) :: starEach es X.env := by rfl) : PA X (e :: es) (Zb6 te t) := by
 intro pos pins s σ H Q I h
 rw [hs]
 show wpAny _ _ (spliced ((false, eval e X.env) :: backTo pos (starEach es X.env))) _ _ s
 refine Calls.spliced_cons (thn (ha pins s σ H _ I h) fun u s1 ⟨x, H1, I1, r1, q1⟩ => ?_)
 exact thn (hr pos pins s1 σ H1 _ I1 q1) fun us s2 ⟨xs, H2, I2, r2, q2⟩ => ⟨x :: xs, H2, I2, .cons r1 r2, q2⟩
noncomputable def tTup (t : TA) : TE := fun σ H Q => t σ H fun xs H1 => xs.length <= sizeLine /\ ∀ p, H1 p = none -> Q (.ref p) (upd H1 p (.tup xs))
noncomputable def tLst (t : TA) : TE := fun σ H Q => t σ H fun xs H1 => xs.length <= sizeLine /\ ∀ p, H1 p = none -> Q (.ref p) (upd H1 p (.lst xs))
theorem Zcx {x1} (h : PA X es t) : PE X (.Tuple es x1 pos) (tTup t) := by
 intro pins s σ H Q I hq
 refine wpAny_Tuple_spliced (thn (h pos pins s σ H _ I hq) fun us s1 ⟨xs, H1, I1, r, z, q⟩ => ⟨by rw [<- r.length]; exact z, ?_⟩)
 have hf : H1 s1.heap.objs.size = none := I1.hok.fresh (Nat.le_refl _)
 refine ⟨.ref s1.heap.objs.size, upd H1 s1.heap.objs.size (.tup xs), I1.laid (t' := s1.toks) (fun b u e => Heap.get?_push_of_some _ e) (Nat.le_refl _) ?_, rfl, q _ hf⟩
 exact ⟨z, us, r, ⟨_, Heap.get?_push_size _ rfl, rfl, _, rfl⟩⟩
theorem Za4 (h : PA X es t) : PE X (.List es pos) (tLst t) := by
 intro pins s σ H Q I hq
 refine wpAny_List_spliced (thn (h pos pins s σ H _ I hq) fun us s1 ⟨xs, H1, I1, r, z, q⟩ => ⟨by rw [<- r.length]; exact z, ?_⟩)
 have hf : H1 s1.heap.objs.size = none := I1.hok.fresh (Nat.le_refl _)
 refine ⟨.ref s1.heap.objs.size, upd H1 s1.heap.objs.size (.lst xs), I1.laid (t' := s1.toks) (fun b u e => Heap.get?_push_of_some _ e) (Nat.le_refl _) ?_, rfl, q _ hf⟩
 exact ⟨z, us, 0, r, Heap.get?_push_size _ rfl⟩
end
noncomputable abbrev Sp := List V -> Hp -> VK -> XK -> Prop
noncomputable abbrev CXT := List Env -> Hp -> Shared -> XK -> Value -> Shared -> Prop
structure Env0 (P : Program) (w : World) (K : PySem.W.Frag) (mg : Str -> Option Value) (base : Heap) (A : Around) (outer : List Env) (s : Shared) (H : Hp) : Prop where
 frames : A.frames = some outer
 mod : Mod K mg base
 bs : ∀ b o, base.get? b = some o -> s.heap.get? b = some o /\ H b = none
 bsz : base.objs.size <= s.heap.objs.size
 funs : s.heap.FunFrames base outer
 frf : ∀ b ∈ frs outer, H b = none
 hok : HOk P w H s.heap
 bare : AllBare s.gens
noncomputable def CE (outer : List Env) (P : Program) (w : World) (H : Hp) (s : Shared) (Q : VK) (u : Value) (s' : Shared) : Prop :=
 ∃ v H', s'.os = s.os /\ AllBare s'.gens /\ Un (frs outer) [] H H' s.heap s'.heap /\ HOk P w H' s'.heap /\ RelV v u /\ Q v H'
noncomputable def CR (CX : CXT) (outer : List Env) (P : Program) (w : World) (H : Hp) (s : Shared) (Q : VK) (E : XK) (r : Result) (s' : Shared) : Prop :=
 match r with
 | .ok (.ret u) => CE outer P w H s Q u s'
 | .ok _ => False
 | .error e => CX outer H s E e s'
structure FnOk (P : Program) (w : World) (K : PySem.W.Frag) (mg : Str -> Option Value) (base : Heap) (CX : CXT) (k : Nat) (f : Addr) (fd : FuncData) (ps : List Str) (sp : Sp) : Prop where
 len : ∀ vs H Q E, sp vs H Q E -> vs.length = ps.length
 run : ∀ (A : Around) (outer : List Env) (s : Shared) (H : Hp) (args : Args) (us : List Value) (vs : List V) (Q : VK) (E : XK), Room k A -> Env0 P w K mg base A outer s H -> BindsTo s fd args (ps.zip us) -> Vals vs us -> sp vs H Q E ->
  codeAny (model P w) A (.call (.ref f) args) (CR CX outer P w H s Q E) s
section
variable {X : Cx} {pins : List (Addr × Obj)} {σ : St} {H : Hp} {s s' : Shared}
theorem Inv.env0 (I : Inv X pins σ H s) : Env0 X.prog X.w X.K X.mg X.base X.A X.stack s H :=
 ⟨I.ok.frames, I.ok.mod, I.bs, Nat.le_trans I.ok.bsz I.sz, I.stack, I.stkFree, I.hok, I.bare⟩
theorem Inv.after {Q : VK} {u : Value} (I : Inv X pins σ H s) (h : CE X.stack X.prog X.w H s Q u s') : EP X pins σ Q u s' := by
 obtain ⟨v, H', os, bare, un, hok, r, q⟩ := h
 obtain ⟨hh, g, d, t, os'⟩ := s'
 obtain rfl : os' = s.os := os
 exact ⟨v, H', I.call (h' := hh) (g' := g) (d' := d) (t' := t) (ch := []) un hok bare (fun b z => absurd z (by simp)), r, q⟩
end
noncomputable def Zer (sp : Sp) (dvs : List V) (E : XK) (t : TA) : TE := fun σ H Q => t σ H fun vs H1 => sp (vs ++ dvs) H1 Q E
noncomputable def Binds (K : PySem.W.Frag) (fd : FuncData) (ps : List Str) (ds : List Value) : Prop :=
 ∀ (s : Shared) (us : List Value), K.In s.heap -> (us ++ ds).length = ps.length -> BindsTo s fd ⟨us, []⟩ (ps.zip (us ++ ds))
theorem Binds.all {K : PySem.W.Frag} {fd : FuncData} {ps : List Str} (h : ∀ us : List Value, us.length = ps.length -> bindArgs fd ⟨us, []⟩ = pure (ps.zip us)) : Binds K fd ps [] := fun s us _ hl => by
 rw [List.append_nil] at hl ⊢
 exact .of_eq (h us hl)
noncomputable def Ze1 (CX : CXT) (X : Cx) (E : XK) : Prop := ∀ (pins : List (Addr × Obj)) (σ : St) (H : Hp) (s : Shared) (e : Value) (s' : Shared), Inv X pins σ H s -> CX X.stack H s E e s' -> X.xe e s'
section
variable {X : Cx} {CX : CXT} {k : Nat} {f C : Addr} {fd : FuncData} {ps : List Str} {sp : Sp} {dvs : List V} {ds : List Value} {E : XK} {x m : Str} {p pos apos : Pos} {e o : Expr} {es : List Expr} {ta : TE} {t : TA}
theorem Ziw {pins : List (Addr × Obj)} {σ : St} {H : Hp} {s : Shared} {Q : VK} {us : List Value} {vs : List V} (F : FnOk X.prog X.w X.K X.mg X.base CX k f fd ps sp) (hr : Room k X.A) (hb : Binds X.K fd ps ds) (hd : Vals dvs ds) (hx : Ze1 CX X E)
    (I : Inv X pins σ H s) (r : Vals vs us) (h : sp (vs ++ dvs) H Q E) : wpAny (model X.prog X.w) X.A (call (.ref f) us) (EP X pins σ Q) X.xe s := by
  have r2 : Vals (vs ++ dvs) (us ++ ds) := r.append hd
  have hl : (us ++ ds).length = ps.length := by rw [<- r2.length]; exact F.len _ _ _ _ h
  refine wpAny_call (codeAny_mono (F.run X.A X.stack s H ⟨us, []⟩ (us ++ ds) (vs ++ dvs) Q E hr I.env0 (hb s us I.kIn hl) r2 h) fun r s' hq => ?_)
  cases r with
  | error e => exact hx pins σ H s e s' I hq
  | ok fl =>
    cases fl with
    | ret u => exact I.after hq
    | next => exact False.elim hq
    | brk => exact False.elim hq
    | cont => exact False.elim hq
theorem ZgJ (F : FnOk X.prog X.w X.K X.mg X.base CX k f fd ps sp) (hr : Room k X.A) (hg : Gl X x) (hm : X.mg x = some (.ref f)) (hk : PySem.W.keepIn X.K (.ref f) = true) (hb : Binds X.K fd ps ds) (hd : Vals dvs ds) (hx : Ze1 CX X E)
  (ha : PA X (e :: es) t) (hdb : (x == ("__debug__" : Str)) = false := by decide) (he : starEach (e :: es) X.env = (false, eval e X.env) :: starEach es X.env := by rfl) (hpl : (backTo pos (starEach es X.env)).any (·.1) = false := by rfl) :
  PE X (.Call (.Name x p) (e :: es) [] pos) (Zer sp dvs E t) := by
 intro pins s σ H Q I h
 refine wpAny_Call_Name_kw (ZcU I hg hm ?_ hdb)
 refine PySem.W.callWith_K (h₀ := X.base) I.ok.mod.kin hk (thn (ha pos pins s σ H _ I h) fun us s1 ⟨vs, H1, I1, r, q⟩ => ⟨I1.kIn, ?_⟩) he hpl
 exact Ziw F hr hb hd hx I1 r q
theorem Zky (F : FnOk X.prog X.w X.K X.mg X.base CX k f fd ps sp) (hr : Room k X.A) (hg : Gl X x) (hm : X.mg x = some (.ref f)) (hk : PySem.W.keepIn X.K (.ref f) = true) (hb : Binds X.K fd ps ds) (hd : Vals dvs ds) (hx : Ze1 CX X E)
  (hdb : (x == ("__debug__" : Str)) = false := by decide) : PE X (.Call (.Name x p) [] [] pos) (Zer sp dvs E tNil) := by
 intro pins s σ H Q I h
 refine wpAny_Call_Name_kw (ZcU I hg hm ?_ hdb)
 exact PySem.W.callWith_K0 I.kIn hk (Ziw (us := []) F hr hb hd hx I .nil h)
end
section
variable {X : Cx} {CX : CXT} {k : Nat} {f C : Addr} {fd : FuncData} {ps ks : List Str} {sp : Sp} {E : XK} {x m : Str} {p pos apos kpos : Pos} {e o : Expr} {es : List Expr} {kws : List Keyword} {te ta : TE} {t tk : TA} {nm : Option Str}
variable {g : List Value -> List Value -> List Value} {gV : List V -> List V -> List V}
end
structure FnScope (N P : List Str) (sc : Scope) : Prop where
 kind : sc.kind = .function
 co : sc.isCoroutine = false
 gen : sc.isGenerator = false
 nd : N.Nodup
 pre : N.take P.length = P
 par : ∀ x ∈ P, sc.names.lookup x = some .local \/ sc.names.lookup x = some .cell
 nofree : ∀ y ∈ sc.names, y.2 ≠ .free
theorem Zgy {kindOf : Str -> Option NameKind} {x : Str} : ∀ {binds : List (Str × Value)} {m : Str -> Option Value}, (∀ v, (x, v) ∉ binds) -> bindL kindOf binds m x = m x
  | [], _, _ => rfl
  | (n, v) :: r, m, h => by
    unfold bindL
    rw [Zgy fun w hw => h w (List.mem_cons_of_mem _ hw)]
    split
    · have : x ≠ n := by rintro rfl; exact h v List.mem_cons_self
      simp [this]
    · rfl
theorem ZgA {kindOf : Str -> Option NameKind} {x : Str} : ∀ {binds : List (Str × Value)} {m : Str -> Option Value}, (∀ v, (x, v) ∉ binds) -> bindC kindOf binds m x = m x
  | [], _, _ => rfl
  | (n, v) :: r, m, h => by
    unfold bindC
    rw [ZgA fun w hw => h w (List.mem_cons_of_mem _ hw)]
    split
    · rfl
    · have : x ≠ n := by rintro rfl; exact h v List.mem_cons_self
      simp [this]
theorem Zgz {kindOf : Str -> Option NameKind} {x : Str} {v : Value} : ∀ {P : List Str} {vs : List Value} {i : Nat} {m : Str -> Option Value}, P.Nodup -> P[i]? = some x -> vs[i]? = some v -> kindOf x = some .local ->
    bindL kindOf (P.zip vs) m x = some v
  | [], _, _, _, _, h, _, _ => by simp at h
  | _ :: _, [], _, _, _, _, h, _ => by simp at h
  | p :: P, w :: vs, 0, m, nd, h1, h2, hk => by
    simp at h1 h2; subst h1; subst h2
    show bindL kindOf ((p, w) :: P.zip vs) m p = _
    unfold bindL
    rw [Zgy fun v hv => (List.nodup_cons.mp nd).1 (List.of_mem_zip hv).1, if_pos hk]
    simp
  | p :: P, w :: vs, i + 1, m, nd, h1, h2, hk => by
    show bindL kindOf ((p, w) :: P.zip vs) m x = _
    unfold bindL
    exact Zgz (i := i) (List.nodup_cons.mp nd).2 (by simpa using h1) (by simpa using h2) hk
theorem ZgB {kindOf : Str -> Option NameKind} {x : Str} {v : Value} : ∀ {P : List Str} {vs : List Value} {i : Nat} {m : Str -> Option Value}, P.Nodup -> P[i]? = some x -> vs[i]? = some v -> kindOf x ≠ some .local ->
    bindC kindOf (P.zip vs) m x = some v
  | [], _, _, _, _, h, _, _ => by simp at h
  | _ :: _, [], _, _, _, _, h, _ => by simp at h
  | p :: P, w :: vs, 0, m, nd, h1, h2, hk => by
    simp at h1 h2; subst h1; subst h2
    show bindC kindOf ((p, w) :: P.zip vs) m p = _
    unfold bindC
    rw [ZgA fun v hv => (List.nodup_cons.mp nd).1 (List.of_mem_zip hv).1, if_neg hk]
    simp
  | p :: P, w :: vs, i + 1, m, nd, h1, h2, hk => by
    show bindC kindOf ((p, w) :: P.zip vs) m x = _
    unfold bindC
    exact ZgB (i := i) (List.nodup_cons.mp nd).2 (by simpa using h1) (by simpa using h2) hk
noncomputable def Zc1 (N : List Str) (vs : List V) : St := vs.map some ++ List.replicate (N.length - vs.length) none
noncomputable def cxOf (CX : CXT) (P : Program) (w : World) (K : PySem.W.Frag) (mg : Str -> Option Value) (base : Heap) (N : List Str) (qual : Str) (scope : Scope) (f : Addr) (cd : Value) (A : Around) (outer : List Env) (s : Shared) (H : Hp) (E : XK) : Cx where
 prog := P
 w := w
 K := K
 mg := mg
 base := base
 A := A.deeper (envOfC qual scope s.heap.objs.size f cd)
 N := N
 s₀ := s
 H₀ := H
 env := envOfC qual scope s.heap.objs.size f cd
 outer := outer
 stack := envOfC qual scope s.heap.objs.size f cd :: outer
 ex := []
 calm := true
 fn := fun _ => true
 pn := []
 xe := fun e s' => wpAny (model P w) (A.deeper (envOfC qual scope s.heap.objs.size f cd)) (leaving (envOfC qual scope s.heap.objs.size f cd) e) (fun _ s'' => CX outer H s E e s'') (fun e' s'' => CX outer H s E e' s'') s'
theorem ZhE {sc : Scope} {n : Nat} {x : Str} (h : sc.names.lookup x = some .cell) : ∃ c, (cellsFrom n sc.names []).lookup x = some c := by
 have q := PySem.W.cellsFrom_some sc.names n [] (.inl h)
 exact Option.isSome_iff_exists.mp q
theorem Zgo {CX : CXT} {P : Program} {w : World} {K : PySem.W.Frag} {mg : Str -> Option Value} {base : Heap} {N ps : List Str} {qual : Str} {scope : Scope} {f : Addr} {cd : Value} {A : Around} {outer : List Env} {s s1 : Shared} {H : Hp} {E : XK} {us : List Value} {vs : List V}
  (S : FnScope N ps scope) (hd : A.handled = none) (e0 : Env0 P w K mg base A outer s H) (hl : vs.length = ps.length) (r : Vals vs us)
  (x : InCallC s s.heap.objs.size (bindL (envOfC qual scope s.heap.objs.size f cd).kindOf (ps.zip us) fun _ => none) (cellsFrom (s.heap.objs.size + 1) scope.names []) (bindC (envOfC qual scope s.heap.objs.size f cd).kindOf (ps.zip us) fun _ => none) s1) :
  Inv (cxOf CX P w K mg base N qual scope f cd A outer s H E) [] (Zc1 N vs) H s1 := by
 have hpl : ps.length <= N.length := by have := congrArg List.length S.pre; rw [List.length_take] at this; lia
 obtain ⟨h1, tk, rfl, hk⟩ := x.done
 have noA : ∀ b : Addr, b ∉ (cxOf CX P w K mg base N qual scope f cd A outer s H E).ex := fun b z => absurd (show b ∈ ([] : List Addr) from z) (by simp)
 refine ⟨⟨e0.mod, S.kind, rfl, rfl, Nat.le_refl _, fun y z c h1 h2 => ?_, fun y hy => ?_, fun y c _ h => ?_, fun _ => hd, Around.frames_deeper e0.frames, .inr ⟨rfl, rfl⟩, fun b z => absurd z (noA b), e0.bs, e0.bsz, fun b _ _ => noA b, fun b z => absurd z (noA b), e0.funs, e0.frf⟩,
  rfl, e0.bare, Un.kept hk, ⟨_, x.toInCall.ns, fun i y v h1 h2 h3 => ?_⟩, fun y c h => ⟨_, x.cell y c h⟩, e0.hok.fresh (Nat.le_refl _), fun y c h => ?_, fun p hp => absurd (show p ∈ ([] : List (Addr × Obj)) from hp) (by simp), e0.hok.kept hk, ?_⟩
 ·exact name_of_addr x.apart (PySem.mem_of_lookup h1) (PySem.mem_of_lookup h2)
 ·have hy : scope.names.lookup y = some .cell \/ scope.names.lookup y = some .free := hy
  rcases hy with hy | hy
  ·exact ZhE hy
  ·exact absurd rfl (S.nofree _ (PySem.mem_of_lookup hy))
 ·exact Nat.le_of_lt (x.above y c (PySem.mem_of_lookup h))
 ·have hi : i < vs.length := by
   unfold Zc1 at h2
   by_cases hi : i < vs.length
   ·exact hi
   ·rw [List.getElem?_append_right (by simpa using hi)] at h2
    rw [List.getElem?_replicate] at h2
    split at h2 <;> cases h2
  have ha : vs[i]? = some v := by
   unfold Zc1 at h2
   rw [List.getElem?_append_left (by simpa using hi), List.getElem?_map] at h2
   cases e : vs[i]? with
   | none => rw [e] at h2; cases h2
   | some a => rw [e] at h2; cases h2; rfl
  obtain ⟨u, hu, rv⟩ := r.get ha
  have hp : ps[i]? = some y := by
   rw [<- S.pre, List.getElem?_take_of_lt (by lia)]; exact h1
  have ndP : ps.Nodup := by rw [<- S.pre]; exact S.nd.sublist (List.take_sublist _ _)
  refine ⟨u, rv, ?_⟩
  rcases S.par y (List.mem_of_getElem? hp) with k | k
  ·exact .inl ⟨k, Zgz ndP hp hu k⟩
  ·obtain ⟨c, e⟩ := ZhE (n := s.heap.objs.size + 1) k
   refine .inr ⟨.inl k, c, e, ?_⟩
   have q := x.cell y c e
   rw [ZgB ndP hp hu (by show scope.names.lookup y ≠ _; rw [k]; decide)] at q
   exact q
 ·exact e0.hok.fresh (Nat.le_of_lt (x.above y c (PySem.mem_of_lookup h)))
 ·unfold Zc1
  show _ = N.length
  rw [List.length_append, List.length_map, List.length_replicate]
  lia
theorem fn_of {CX : CXT} {P : Program} {w : World} {K : PySem.W.Frag} {mg : Str -> Option Value} {base : Heap} {k : Nat} {f : Addr} {name qual : Str} {params : Arguments} {body : List Stmt} {scope : Scope} {dV kV doc pm cdv ct oc : Value} {an od : Option Addr}
    {osl : Array (Option Value)} {N ps : List Str} {sp : Sp} (lk : K.lookup f = some ⟨oc, od, .func (PySem.W.fnOf name qual params body scope dV kV doc pm an cdv ct), osl⟩) (hcd : PySem.W.codeIn K cdv qual = true) (S : FnScope N ps scope)
    (len : ∀ vs H Q E, sp vs H Q E -> vs.length = ps.length)
    (hbody : ∀ (A : Around) (outer : List Env) (s : Shared) (H : Hp) (vs : List V) (Q : VK) (E : XK), Room k (A.deeper (envOfC qual scope s.heap.objs.size f cdv)) -> sp vs H Q E ->
      ∃ t, PSs (cxOf CX P w K mg base N qual scope f cdv A outer s H E) body t /\ t { nx := fun _ H' => Q .non H', rt := Q } (Zc1 N vs) H) :
    FnOk P w K mg base CX (k + 1) f (PySem.W.fnOf name qual params body scope dV kV doc pm an cdv ct) ps sp := by
  refine ⟨len, fun A outer s H args us vs Q E hr e0 hb r hsp => ?_⟩
  have hl := len _ _ _ _ hsp
  have KX : K.In s.heap := e0.mod.kin.keeps fun b o e => (e0.bs b o e).1
  have lim : s.heap.NoLimit := e0.mod.nolimit.keeps fun b o e => (e0.bs b o e).1
  have hkind : ∀ y ∈ ps.zip us, scope.names.lookup y.1 = some .local \/ (scope.names.lookup y.1 = some .cell /\ ((cellsFrom (s.heap.objs.size + 1) scope.names []).lookup y.1).isSome = true) := fun ⟨n, v⟩ hy => by
    rcases S.par n (List.of_mem_zip hy).1 with q | q
    · exact .inl q
    · exact .inr ⟨q, PySem.W.cellsFrom_some _ _ _ (.inl q)⟩
  refine codeAny_call_function hr.depth (KX _ _ lk) rfl S.co S.gen rfl (PySem.W.codeRec_of KX hcd) (hb _ _ _ _ ?_)
  refine wpAny_newFunctionEnv_cells S.kind hkind fun env he s1 x => ?_
  subst he
  refine ⟨lim.keeps x.toInCall.keep, codeAny_func ?_⟩
  obtain ⟨t, ht, hq⟩ := hbody A outer s H vs Q E (hr.deeper _) hsp
  have I : Inv (cxOf CX P w K mg base N qual scope f cdv A outer s H E) [] (Zc1 N vs) H s1 := Zgo S hr.hd e0 hl r x
  refine wpAny_mono (ht [] s1 (Zc1 N vs) H _ I hq) (fun fl s' hs => ?_) fun e s' hs => hs
  have fin : ∀ {σ' : St} {H' : Hp} {v : V} {u : Value}, Inv (cxOf CX P w K mg base N qual scope f cdv A outer s H E) [] σ' H' s' -> RelV v u -> Q v H' -> CE outer P w H s Q u s' :=
    fun {σ' H' v u} J rv q => ⟨v, H', J.os, J.bare, J.base, J.hok, rv, q⟩
  cases fl with
  | ret u =>
    obtain ⟨v, σ', H', J, rv, q⟩ := hs
    exact fin J rv q
  | next =>
    obtain ⟨σ', H', J, q⟩ := hs
    exact fin (v := V.non) (u := Value.none) J rfl q
  | brk =>
    obtain ⟨_, _, _, q⟩ := hs
    exact False.elim q
  | cont =>
    obtain ⟨_, _, _, q⟩ := hs
    exact False.elim q
end L2
namespace L2
open PySem PySem.Spec PyProof.Rows
section
variable {X : Cx} {x : Str} {p pos : Pos} {e : Expr} {es : List Expr} {t : TA} {id T : String} {r : List V -> Hp -> VK -> Prop}
noncomputable def tCB (r : List V -> Hp -> VK -> Prop) (t : TA) : TE := fun σ H Q => t σ H fun vs H1 => r vs H1 Q
theorem Zap (hc : Zct X (.builtin id) r) (hg : Gl X x) (hm : X.mg x = none) (hv : bootBuiltins x = some (.builtin id)) (ha : PA X (e :: es) t) (hn : x ≠ "__name__" := by decide) (hdb : (x == ("__debug__" : Str)) = false := by decide)
  (he : starEach (e :: es) X.env = (false, eval e X.env) :: starEach es X.env := by rfl) (hpl : (backTo pos (starEach es X.env)).any (·.1) = false := by rfl) : PE X (.Call (.Name x p) (e :: es) [] pos) (tCB r t) := by
 intro pins s σ H Q I h
 refine wpAny_Call_Name_kw (Zhu I hg hm hv ?_ hn hdb)
 exact PyProof.Rows.callWith_builtin1 (thn (ha pos pins s σ H _ I h) fun us s1 ⟨vs, H1, I1, r1, q1⟩ => hc pins s1 σ H1 vs us Q I1 r1 q1) he hpl
theorem ZaS (hc : Zct X (.type T) r) (hg : Gl X x) (hm : X.mg x = none) (hv : bootBuiltins x = some (.type T)) (ha : PA X (e :: es) t) (hn : x ≠ "__name__" := by decide) (hdb : (x == ("__debug__" : Str)) = false := by decide)
  (he : starEach (e :: es) X.env = (false, eval e X.env) :: starEach es X.env := by rfl) (hpl : (backTo pos (starEach es X.env)).any (·.1) = false := by rfl) : PE X (.Call (.Name x p) (e :: es) [] pos) (tCB r t) := by
 intro pins s σ H Q I h
 refine wpAny_Call_Name_kw (Zhu I hg hm hv ?_ hn hdb)
 exact PyProof.Rows.callWith_type1 (thn (ha pos pins s σ H _ I h) fun us s1 ⟨vs, H1, I1, r1, q1⟩ => hc pins s1 σ H1 vs us Q I1 r1 q1) he hpl
end
end L2
namespace HT
open PySem PyProof.Rows
section
open PySem.SeqAt
open PySem.AutoSeq1 (wpAny_loadPart')
open PySem.MeetsSeq PySem.MeetsSeq2 PySem.MeetsSeq3
end
section
variable {prog : Program} {w : World} {A : Around} {E : Value -> Shared -> Prop} {s : Shared}
theorem cat_tup {t b : Addr} {vs ws : List Value} {Q : Value -> Shared -> Prop} (ht : IsTup s.heap t vs.toArray) (hb : IsTup s.heap b ws.toArray) (hv : vs ≠ [])
  (h1 : ws = [] -> Q (.ref t) s) (h2 : ws ≠ [] -> Q (.ref s.heap.objs.size) { s with heap := s.heap.push { cls := .type "tuple", data := .seq (vs ++ ws).toArray } })
  (hsz : vs.length + ws.length <= sizeLine) : wpAny (model prog w) A (binaryOp .Add (.ref t) (.ref b)) Q E s := by
 obtain ⟨⟨cls, dd, data, sl⟩, ho, hc, n, hd⟩ := id ht
 obtain ⟨⟨cls2, dd2, data2, sl2⟩, ho2, hc2, n2, hd2⟩ := id hb
 simp only at hc hd hc2 hd2
 subst hc hd hc2 hd2
 have e : vs.toArray ++ ws.toArray = (vs ++ ws).toArray := by simp
 by_cases hw : ws = []
 ·exact concat_meets ⟨_, ho, rfl⟩ ⟨_, ho2, rfl⟩ noFill_tuple_add seq_tuple_add PySem.F.slot_tuple_add PySem.F.entry_tuple_add (PySem.F.args_tuple_add_2 _ _)
   (tuple_addW1 t b vs.toArray ws.toArray n n2 dd dd2 sl sl2 (by simpa using hv) (by simp [hw])) ⟨ho, ho2, h1 hw⟩
 ·refine concat_meets ⟨_, ho, rfl⟩ ⟨_, ho2, rfl⟩ noFill_tuple_add seq_tuple_add PySem.F.slot_tuple_add PySem.F.entry_tuple_add (PySem.F.args_tuple_add_2 _ _)
   (tuple_addW2 t b vs.toArray ws.toArray n n2 dd dd2 sl sl2 (by simpa using hv) (by simpa using hw) (by rw [List.size_toArray, List.size_toArray]; exact hsz)) ⟨ho, ho2, ?_⟩
  rw [e]
  exact h2 hw
noncomputable def sIx (n d : Nat) : Option Int -> Nat
 | none => d
 | some v => if v < 0 then (v + (n : Int)).toNat else min v.toNat n
theorem Zex (n d k : Nat) : sIx n d (some (k : Int)) = min k n := by
 show (if (k : Int) < 0 then ((k : Int) + (n : Int)).toNat else min (k : Int).toNat n) = min k n
 rw [if_neg (by lia), Int.toNat_natCast]
theorem sIx_le (n d : Nat) (hd : d <= n) (o : Option Int) : sIx n d o <= n := by
  cases o with
  | none => exact hd
  | some v =>
    show (if v < 0 then (v + (n : Int)).toNat else min v.toNat n) <= n
    by_cases hv : v < 0
    · rw [if_pos hv]; lia
    · rw [if_neg hv]; exact Nat.min_le_right _ _
theorem ZjG (v : Int) (n d : Nat) : (if v < 0 then max (v + (n : Int)) 0 else min v (n : Int)) = ((sIx n d (some v) : Nat) : Int) := by
 show (if v < 0 then max (v + (n : Int)) 0 else min v (n : Int)) = (((if v < 0 then (v + (n : Int)).toNat else min v.toNat n) : Nat) : Int)
 by_cases hv : v < 0
 ·simp only [if_pos hv]; lia
 ·simp only [if_neg hv]; lia
theorem Zh2 (lo hi : Option Int) (n : Nat) : Builtin.Slice.sliceAdjust lo hi 1 (n : Int) = (((sIx n 0 lo : Nat) : Int), ((sIx n n hi : Nat) : Int)) := by
 have h1 : ¬ ((1 : Int) < 0) := by lia
 unfold Builtin.Slice.sliceAdjust
 simp only [h1, if_false]
 refine Prod.ext ?_ ?_
 ·cases lo with
  | none => rfl
  | some v => exact ZjG v n 0
 ·cases hi with
  | none => rfl
  | some v => exact ZjG v n n
theorem ZhQ (i j : Nat) : Builtin.Slice.slicePlaces (i : Int) (j : Int) 1 = j - i := by
 unfold Builtin.Slice.slicePlaces
 have h1 : (1 : Int) > 0 := by lia
 simp only [h1, if_true, Int.ediv_one]
 split <;> lia
theorem Ze8 {v : Value} {o : Option Int} {Q : Option Int -> Shared -> Prop} (p : IsPart v o) (h : Q o s) : wpAny (model prog w) A (Builtin.Slice.slicePartIndex v) Q E s := by
 cases p with
 | none => exact slicePart_none h
 | int i t => exact slicePart_int h
theorem Zef {sl : Addr} {vl vu : Value} {lo hi : Option Int} {n : Nat} {Q : Int × Int × Nat -> Shared -> Prop} (hs : s.heap.IsSliceOf sl vl vu .none) (pl : IsPart vl lo) (pu : IsPart vu hi)
  (h : Q (((sIx n 0 lo : Nat) : Int), 1, sIx n n hi - sIx n 0 lo) s) : wpAny (model prog w) A (Builtin.Slice.sliceApplied (.ref sl) (pure (n : Int))) Q E s := by
 obtain ⟨os, hos, hcs, hds⟩ := id hs
 unfold Builtin.Slice.sliceApplied Builtin.Slice.sliceFields
 refine wpAny_bind (wpAny_bind (wpAny_field hos hds (x := vl) rfl (wpAny_bind (wpAny_field hos hds (x := vu) rfl (wpAny_bind (wpAny_field hos hds (x := .none) rfl (wpAny_pure ?_)))))))
 refine wpAny_bind (slicePart_none ?_)
 show wpAny _ _ (if ((1 : Int) == 0) = true then _ else _) _ _ s
 rw [if_neg (by decide)]
 refine wpAny_bind (Ze8 pl (wpAny_bind (Ze8 pu (wpAny_bind (wpAny_pure ?_)))))
 show wpAny _ _ (match Builtin.Slice.sliceAdjust lo hi 1 (n : Int) with | (lo, hi) => pure (lo, (1 : Int), Builtin.Slice.slicePlaces lo hi 1)) _ _ s
 rw [Zh2 lo hi n]
 show wpAny _ _ (pure (((sIx n 0 lo : Nat) : Int), (1 : Int), Builtin.Slice.slicePlaces ((sIx n 0 lo : Nat) : Int) ((sIx n n hi : Nat) : Int) 1)) _ _ s
 rw [ZhQ]
 exact wpAny_pure h
theorem Zkt (xs : Array Value) (i k : Nat) : ((List.range k).filterMap fun (m : Nat) => xs[((i : Int) + (m : Int) * 1).toNat]?).toArray = ((xs.toList.drop i).take k).toArray := by
 have e : (fun (m : Nat) => xs[((i : Int) + (m : Int) * 1).toNat]?) = fun m => xs[i + m]? := by
  funext m
  have : ((i : Int) + (m : Int) * 1).toNat = i + m := by lia
  rw [this]
 rw [e]
 have := pick_run xs i k
 rw [List.filterMap_map] at this
 have e2 : ((fun x => xs[x]?) ∘ fun x => i + x) = fun m => xs[i + m]? := rfl
 rw [e2] at this
 rw [this]
theorem getItem_tuple_cut {t sl : Addr} {items : Array Value} {vl vu : Value} {lo hi : Option Int} {Q : Value -> Shared -> Prop} (ht : IsTup s.heap t items) (hs : s.heap.IsSliceOf sl vl vu .none) (pl : IsPart vl lo) (pu : IsPart vu hi)
  (hw : ¬ (sIx items.size 0 lo = 0 /\ sIx items.size items.size hi = items.size))
  (h : Q (.ref s.heap.objs.size) { s with heap := s.heap.push { cls := .type "tuple", data := .seq ((items.toList.drop (sIx items.size 0 lo)).take (sIx items.size items.size hi - sIx items.size 0 lo)).toArray } })
  (hsz : items.size <= sizeLine) : wpAny (model prog w) A (getItem (.ref t) (.ref sl)) Q E s := by
 have htake : sizeOk (.seq ((items.toList.drop (sIx items.size 0 lo)).take (sIx items.size items.size hi - sIx items.size 0 lo)).toArray) := by
  show ((items.toList.drop (sIx items.size 0 lo)).take (sIx items.size items.size hi - sIx items.size 0 lo)).toArray.size <= sizeLine
  rw [List.size_toArray, List.length_take, List.length_drop, Array.length_toList]
  lia
 have hj : sIx items.size items.size hi <= items.size := sIx_le _ _ (Nat.le_refl _) hi
 obtain ⟨os, hos, hcs, hds⟩ := id hs
 have hTs : s.TypeIs (.ref sl) "slice" := ⟨os, hos, hcs⟩
 unfold getItem
 try with_reducible refine wpAny_holding ?_
 first | refine wpAny_bind (wpAny_pure ?_) | skip
 refine wpAny_bind (wpAny_sequenceKey ht.typeIs (by decide) ?_)
 refine wpAny_bind (wpAny_callSpecial?_slot (name := Str.ofString "__getitem__") ht.typeIs PyProof.Rows.slot_tuple_getitem
  (wpAny_call_entry PyProof.Rows.slot_tuple_getitem ht.typeIs entry_tuple_getitem ?_ (args_tuple_getitem _ _)))
 show wpAny _ _ (Builtin.Tuple.tupleItemsOf (.ref t) >>= _) _ _ s
 refine wpAny_bind (tupleItemsOf_ ht ?_)
 refine wpAny_bind (wpAny_typeOf hTs ?_)
 rw [if_pos (by decide)]
 refine wpAny_bind (Zef hs pl pu ?_)
 have hno : ¬ ((((sIx items.size 0 lo : Nat) : Int) == 0 && (1 : Int) == 1 && (sIx items.size items.size hi - sIx items.size 0 lo) == items.size) = true) := by
  intro q
  rw [Bool.and_eq_true, Bool.and_eq_true] at q
  have q1 : ((sIx items.size 0 lo : Nat) : Int) = 0 := eq_of_beq q.1.1
  have q2 : sIx items.size items.size hi - sIx items.size 0 lo = items.size := eq_of_beq q.2
  exact hw ⟨by lia, by lia⟩
 show wpAny _ _ (if (((sIx items.size 0 lo : Nat) : Int) == 0 && (1 : Int) == 1 && (sIx items.size items.size hi - sIx items.size 0 lo) == items.size) = true then _ else _) _ _ s
 rw [if_neg hno, Zkt]
 first
  | exact wpAny_bind (m := Builtin.Tuple.tupleExact _) (wpAny_newObj_type (wpAny_pure ⟨_, rfl, wpAny_pure h⟩) htake)
  | exact wpAny_bind (m := Builtin.Tuple.tupleExact _) (wpAny_newObj_type (wpAny_bind (wpAny_pure (wpAny_pure ⟨_, rfl, wpAny_pure h⟩))) htake)
  | exact wpAny_bind (wpAny_bind (m := Builtin.Tuple.tupleExact _) (wpAny_newObj_type (wpAny_pure (wpAny_pure ⟨_, rfl, wpAny_pure h⟩)) htake))
  | exact wpAny_bind (wpAny_bind (m := Builtin.Tuple.tupleExact _) (wpAny_newObj_type (wpAny_pure ⟨_, rfl, wpAny_pure h⟩) htake))
end
end HT
namespace L2
open PySem PySem.Spec PyProof.Rows
noncomputable abbrev TO := St -> Hp -> (Option Int -> Hp -> Prop) -> Prop
noncomputable def PO (X : Cx) (e : Option Expr) (t : TO) : Prop :=
 ∀ (pins : List (Addr × Obj)) (s : Shared) (σ : St) (H : Hp) (Q : Option Int -> Hp -> Prop), Inv X pins σ H s -> t σ H Q ->
  wpAny (model X.prog X.w) X.A (evalPart e X.env) (fun u s' => ∃ o H', Inv X pins σ H' s' /\ IsPart u o /\ Q o H') X.xe s
noncomputable def ZdQ : TO := fun _ H Q => Q none H
noncomputable def ZhL (t : TE) : TO := fun σ H Q => t σ H fun x H1 => ∃ i, x = .int i /\ Q (some i) H1
section
variable {X : Cx} {e : Expr} {te : TE} {lo hi : Option Expr} {tl th : TO} {pos p2 : Pos}
theorem ZaC : PO X none ZdQ := by
 intro pins s σ H Q I h
 rw [evalPart_none]
 exact wpAny_pure ⟨none, H, I, .none, h⟩
theorem ZaB (h : PE X e te) : PO X (some e) (ZhL te) := by
 intro pins s σ H Q I hw
 rw [evalPart_some]
 refine thn (h pins s σ H _ I hw) fun u s1 ⟨x, H1, I1, r1, q1⟩ => ?_
 obtain ⟨i, rfl, q⟩ := q1
 obtain ⟨t, rfl⟩ := r1
 exact ⟨some i, H1, I1, .int i t, q⟩
noncomputable def SlR (X : Cx) (r : V -> Option Int -> Option Int -> Hp -> VK -> Prop) : Prop :=
 ∀ (pins : List (Addr × Obj)) (s : Shared) (σ : St) (H : Hp) (x : V) (v vl vu : Value) (lo hi : Option Int) (sl : Addr) (Q : VK), Inv X pins σ H s -> RelV x v -> s.heap.IsSliceOf sl vl vu .none -> IsPart vl lo -> IsPart vu hi -> r x lo hi H Q ->
  ∃ T id, typeLookup (.type T) "__getitem__" = pure (some (.builtin id)) /\ s.TypeIs v T /\ wpAny (model X.prog X.w) X.A (getItem v (.ref sl)) (EP X pins σ Q) X.xe s
noncomputable def tSl (r : V -> Option Int -> Option Int -> Hp -> VK -> Prop) (te : TE) (tl th : TO) : TE := fun σ H Q => te σ H fun x H1 => tl σ H1 fun l H2 => th σ H2 fun u H3 => r x l u H3 Q
theorem Zat {r : V -> Option Int -> Option Int -> Hp -> VK -> Prop} (hr : SlR X r) (he : PE X e te) (hl : PO X lo tl) (hu : PO X hi th) : PE X (.Subscript e (.Slice lo hi none p2) pos) (tSl r te tl th) := by
 intro pins s σ H Q I h
 refine Subscript_ (thn (he pins s σ H _ I h) fun v s1 ⟨x, H1, I1, r1, q1⟩ => ?_)
 refine wpAny_Slice (thn (hl pins s1 σ H1 _ I1 q1) fun vl s2 ⟨l, H2, I2, pl, q2⟩ => thn (hu pins s2 σ H2 _ I2 q2) fun vu s3 ⟨u, H3, I3, pu, q3⟩ => ?_)
 rw [evalPart_none]
 refine wpAny_pure ?_
 have I4 : Inv X pins σ H3 { s3 with heap := s3.heap.push { cls := .type "slice", data := .fields #[vl, vu, .none] } } := I3.kept (t' := s3.toks) fun b ob q => Heap.get?_push_of_some _ q
 obtain ⟨T, id, hT, ht, hg⟩ := hr pins { s3 with heap := s3.heap.push { cls := .type "slice", data := .fields #[vl, vu, .none] } } σ H3 x v vl vu l u s3.heap.objs.size Q I4 r1 (Heap.IsSliceOf.new ..) pl pu q3
 show wpAny (model X.prog X.w) X.A (subscriptTail e (.Slice lo hi none p2) v (.ref s3.heap.objs.size)) (EP X pins σ Q) X.xe { s3 with heap := s3.heap.push { cls := .type "slice", data := .fields #[vl, vu, .none] } }
 exact tail_any (ops := [.ref s3.heap.objs.size, v]) ht hT hg (by with_unfolding_all rfl)
noncomputable def cutV (xs : List V) (lo hi : Option Int) : List V := (xs.drop (HT.sIx xs.length 0 lo)).take (HT.sIx xs.length xs.length hi - HT.sIx xs.length 0 lo)
theorem ZeT (xs : List V) (lo hi : Option Int) : (cutV xs lo hi).length <= xs.length := by
 unfold cutV
 rw [List.length_take, List.length_drop]
 lia
noncomputable def rSlT (K : PySem.W.Frag) : V -> Option Int -> Option Int -> Hp -> VK -> Prop := fun x lo hi H Q => ∃ a xs, x = .ref a /\ SqT K H a xs /\
 ¬ (HT.sIx xs.length 0 lo = 0 /\ HT.sIx xs.length xs.length hi = xs.length) /\ ∀ p, H p = none -> Q (.ref p) (upd H p (.tup (cutV xs lo hi)))
theorem sl_tup : SlR X (rSlT X.K) := by
 intro pins s σ H x v vl vu lo hi sl Q I rx hs pl pu h
 obtain ⟨a, xs, rfl, hx, hw, q⟩ := h
 cases rx
 obtain ⟨its, r, ht, hz⟩ := I.tuple hx
 have hlen : its.toArray.size = xs.length := by rw [List.size_toArray]; exact r.length.symm
 refine ⟨"tuple", _, PyProof.Rows.slot_tuple_getitem.lookup, ht.typeIs, ?_⟩
 refine HT.getItem_tuple_cut ht hs pl pu (by rw [hlen]; exact hw) ?_ (by rw [hlen]; exact hz)
 rw [hlen]
 refine ⟨.ref s.heap.objs.size, _, I.laid (t' := s.toks) (o := .tup (cutV xs lo hi)) (fun b ob q => Heap.get?_push_of_some _ q) (Nat.le_refl _) ?_, rfl, q _ (I.hok.fresh (Nat.le_refl _))⟩
 exact ⟨Nat.le_trans (ZeT xs lo hi) hz, _, (r.drop (HT.sIx xs.length 0 lo)).take (HT.sIx xs.length xs.length hi - HT.sIx xs.length 0 lo), IsTup.new _ _⟩
noncomputable def rCatT (K : PySem.W.Frag) : R2 := fun x y H Q => ∃ a b xs ys, x = .ref a /\ y = .ref b /\ SqT K H a xs /\ SqT K H b ys /\ xs ≠ [] /\ xs.length + ys.length <= sizeLine /\
 (ys = [] -> Q (.ref a) H) /\ (ys ≠ [] -> ∀ p, H p = none -> Q (.ref p) (upd H p (.tup (xs ++ ys))))
theorem Vals.nil_iff {xs : List V} {us : List Value} (r : Vals xs us) : us = [] ↔ xs = [] := by
 cases r with
 | nil => simp
 | cons _ _ => simp
theorem Zi6 : OpR X (binaryOp .Add) (rCatT X.K) := by
 intro pins s σ H x y v u Q I rx ry h
 obtain ⟨a, b, xs, ys, rfl, rfl, ha, hb, hx, hz, q1, q2⟩ := h
 cases rx
 cases ry
 obtain ⟨its, r1, p1, _⟩ := I.tuple ha
 obtain ⟨its2, r2, p2, _⟩ := I.tuple hb
 refine HT.cat_tup p1 p2 (fun z => hx (r1.nil_iff.mp z)) (fun z => ⟨.ref a, H, I, rfl, q1 (r2.nil_iff.mp z)⟩) (fun z => ?_) (by rw [<- r1.length, <- r2.length]; exact hz)
 refine ⟨.ref s.heap.objs.size, _, I.laid (t' := s.toks) (o := .tup (xs ++ ys)) (fun b ob q => Heap.get?_push_of_some _ q) (Nat.le_refl _) ?_, rfl, q2 (fun w => z (r2.nil_iff.mpr w)) _ (I.hok.fresh (Nat.le_refl _))⟩
 exact ⟨by rw [List.length_append]; exact hz, _, r1.append r2, IsTup.new _ _⟩
end
end L2
namespace L2
open PySem PySem.Spec PyProof.Rows
noncomputable def ixN (n : Nat) (i : Int) : Option Nat := if 0 <= i then (if i < n then some i.toNat else none) else if -(n : Int) <= i then some (i + n).toNat else none
noncomputable def atI {α : Type} (xs : List α) (i : Int) : Option α := (ixN xs.length i).bind fun j => xs[j]?
theorem Zjq {n : Nat} {i : Int} {j : Nat} (h : ixN n i = some j) : seqIndex? i n = some j /\ j < n /\ -(n : Int) <= i /\ i < n := by
 unfold ixN at h
 by_cases h0 : 0 <= i
 ·rw [if_pos h0] at h
  by_cases h1 : i < n
  ·rw [if_pos h1] at h
   have e : i.toNat = j := Option.some.inj h
   exact ⟨by rw [seqIndex_of h0 h1, e], by lia, by lia, h1⟩
  ·rw [if_neg h1] at h; cases h
 ·rw [if_neg h0] at h
  by_cases h1 : -(n : Int) <= i
  ·rw [if_pos h1] at h
   have e : (i + n).toNat = j := Option.some.inj h
   exact ⟨by rw [seqIndex_neg (by lia) h1, e], by lia, h1, by lia⟩
  ·rw [if_neg h1] at h; cases h
theorem Zg2 {α : Type} {xs : List α} {i : Int} {v : α} (h : atI xs i = some v) : ∃ j, seqIndex? i xs.length = some j /\ xs[j]? = some v /\ j < xs.length /\ -(xs.length : Int) <= i /\ i < xs.length := by
  unfold atI at h
  cases e : ixN xs.length i with
  | none => rw [e] at h; cases h
  | some j =>
    rw [e] at h
    obtain ⟨h1, h2, h3, h4⟩ := Zjq e
    exact ⟨j, h1, h, h2, h3, h4⟩
theorem ZhH {α : Type} (xs : List α) (v : α) : atI (xs ++ [v]) (-1) = some v := by
 have hl : (xs ++ [v]).length = xs.length + 1 := by simp
 have e : ixN (xs ++ [v]).length (-1) = some xs.length := by
  unfold ixN
  rw [hl, if_neg (by decide), if_pos (by lia)]
  congr 1
  lia
 unfold atI
 rw [e]
 show (xs ++ [v])[xs.length]? = some v
 simp
noncomputable def ZmX (b : Expr) : Prop := ∀ o i, subscripted b false o i = operate [o, i] (getItem o i)
noncomputable def IxR (X : Cx) (r : R2) : Prop :=
 ∀ (value slice : Expr) (pins : List (Addr × Obj)) (s : Shared) (σ : St) (H : Hp) (x y : V) (v u : Value) (Q : VK), Inv X pins σ H s -> RelV x v -> RelV y u -> r x y H Q ->
  subscripted slice false v u = operate [v, u] (getItem v u) -> wpAny (model X.prog X.w) X.A (subscriptTail value slice v u) (EP X pins σ Q) X.xe s
noncomputable def MtR (X : Cx) (id : String) (r : V -> List V -> Hp -> VK -> Prop) : Prop :=
 ∀ (pins : List (Addr × Obj)) (s : Shared) (σ : St) (H : Hp) (x : V) (xs : List V) (v : Value) (us : List Value) (Q : VK), Inv X pins σ H s -> RelV x v -> Vals xs us -> r x xs H Q ->
  wpAny (model X.prog X.w) X.A (call (.builtin id) (v :: us)) (EP X pins σ Q) X.xe s
section
variable {X : Cx} {a b : Expr} {ta tb : TE} {pos : Pos}
theorem IxR.or {r r' : R2} (h : IxR X r) (h' : IxR X r') : IxR X (fun x y H Q => r x y H Q \/ r' x y H Q) := by
 intro value slice pins s σ H x y v u Q I rx ry q hs
 rcases q with q | q
 ·exact h value slice pins s σ H x y v u Q I rx ry q hs
 ·exact h' value slice pins s σ H x y v u Q I rx ry q hs
theorem Zax {r : R2} (hr : IxR X r) (ha : PE X a ta) (hb : PE X b tb) (hs : ZmX b) : PE X (.Subscript a b pos) (tOp r ta tb) := by
 intro pins s σ H Q I h
 exact Subscript_ (binT ha hb I h fun v u s2 x y H2 I2 rx ry q => hr a b pins s2 σ H2 x y v u Q I2 rx ry q (hs _ _))
noncomputable def rIxL (K : PySem.W.Frag) : R2 := fun x y H Q => ∃ p xs i v, x = .ref p /\ y = .int i /\ SqL K H p xs /\ atI xs i = some v /\ Q v H
noncomputable def rIxT (K : PySem.W.Frag) : R2 := fun x y H Q => ∃ p xs i v, x = .ref p /\ y = .int i /\ SqT K H p xs /\ atI xs i = some v /\ Q v H
noncomputable def rIxS : R2 := fun x y H Q => ∃ z i c, x = .str z /\ y = .int i /\ z.length <= sizeLine /\ atI z.cps.toList i = some c /\ Q (.str ⟨#[c]⟩) H
theorem ix_list : IxR X (rIxL X.K) := by
 intro value slice pins s σ H x y v u Q I rx ry h hs
 obtain ⟨p, xs, i, z, rfl, rfl, hq, he, q⟩ := h
 cases rx
 obtain ⟨t, rfl⟩ := ry
 obtain ⟨its, r, pl, hz⟩ := I.list hq
 obtain ⟨j, h1, h2, h3, h4, h5⟩ := Zg2 he
 obtain ⟨w, ew, rw'⟩ := r.get h2
 have hl := r.length
 have hn := Zgl
 have fin : EP X pins σ Q w s := ⟨z, H, I, rw', q⟩
 by_cases h0 : 0 <= i
 ·have hj : i.toNat = j := by
   rw [seqIndex_of h0 h5] at h1
   exact Option.some.inj h1
  exact item_listR pl.isList h0 (by lia) (by rw [hj]; simpa using ew) fin hs
 ·have hj : (i + (its.toArray.size : Int)).toNat = j := by
   rw [seqIndex_neg (by lia) h4] at h1
   rw [List.size_toArray, <- hl]
   exact Option.some.inj h1
  exact subscriptTail_builtinR (x := w) pl.isList.typeIs slot_list_getitem.lookup
   (wpAny_getItem_list_neg (Q := fun r s' => r = w /\ EP X pins σ Q r s') pl.isList (by lia) (by rw [List.size_toArray] <;> lia) (by lia) (by rw [hj]; simpa using ew) ⟨rfl, fin⟩) hs
theorem ix_tup : IxR X (rIxT X.K) := by
 intro value slice pins s σ H x y v u Q I rx ry h hs
 obtain ⟨p, xs, i, z, rfl, rfl, hq, he, q⟩ := h
 cases rx
 obtain ⟨t, rfl⟩ := ry
 obtain ⟨its, r, pl, hz⟩ := I.tuple hq
 obtain ⟨j, h1, h2, h3, h4, h5⟩ := Zg2 he
 obtain ⟨w, ew, rw'⟩ := r.get h2
 have hl := r.length
 have hn := Zgl
 have fin : EP X pins σ Q w s := ⟨z, H, I, rw', q⟩
 exact subscriptTail_builtinR (x := w) pl.typeIs slot_tuple_getitem.lookup
  (getItem_tuple (j := j) (Q := fun r s' => r = w /\ EP X pins σ Q r s') pl (by lia) (by lia) (by rw [List.size_toArray, <- hl]; exact h1) (by simpa using ew) ⟨rfl, fin⟩) hs
theorem Zfg : IxR X rIxS := by
 intro value slice pins s σ H x y v u Q I rx ry h hs
 obtain ⟨z, i, c, rfl, rfl, hz, he, q⟩ := h
 obtain ⟨t, rfl⟩ := rx
 obtain ⟨t', rfl⟩ := ry
 obtain ⟨j, h1, h2, h3, h4, h5⟩ := Zg2 he
 have hl : z.cps.toList.length = z.length := by simp [Str.length]
 rw [hl] at h1 h4 h5
 have hn := Zgl
 exact tail_any (typeIs_str s z t) slot_str_getitem.lookup (getItem_str (c := c) (by
  have e1 : decide (i < -(2 ^ 63 : Int)) = false := decide_eq_false (by lia)
  have e2 : decide (i ≥ 2 ^ 63) = false := decide_eq_false (by lia)
  rw [e1, e2, Bool.or_false]) (by rw [h1]; simpa using h2) ⟨.str ⟨#[c]⟩, H, I.tok _, ⟨_, rfl⟩, q⟩) hs
theorem ZhT (its : List Value) (n j : Nat) (u : Value) : Obj.mapSeq (·.setIfInBounds j u) { cls := .type "list", data := .seq its.toArray n } = { cls := .type "list", data := .seq (its.set j u).toArray n } := by
 simp [Obj.mapSeq]
theorem Inv.lst {pins : List (Addr × Obj)} {σ : St} {H : Hp} {s : Shared} {p : Addr} {xs : List V} (I : Inv X pins σ H s) (h : H p = some (.lst xs)) :
  ∃ (its : List Value) (n : Nat), Vals xs its /\ s.heap.get? p = some { cls := .type "list", data := .seq its.toArray n } /\ xs.length <= sizeLine := by
 obtain ⟨z, its, n, r, e⟩ := I.hok p _ h
 exact ⟨its, n, r, e, z⟩
theorem Inv.lstUpd {pins : List (Addr × Obj)} {σ : St} {H : Hp} {s : Shared} {p : Addr} {xs ys : List V} {its its' : List Value} {n n' : Nat} {f : Obj -> Obj} (I : Inv X pins σ H s) (h : H p = some (.lst xs))
  (ho : s.heap.get? p = some { cls := .type "list", data := .seq its.toArray n }) (hf : f { cls := .type "list", data := .seq its.toArray n } = { cls := .type "list", data := .seq its'.toArray n' }) (r : Vals ys its') (hz : ys.length <= sizeLine) (t : Nat) :
  Inv X pins σ (upd H p (.lst ys)) { s with heap := s.heap.update p f, toks := t } := by
 have e : (s.heap.update p f).get? p = some { cls := .type "list", data := .seq its'.toArray n' } := by
  rw [Heap.get?_update_self f ho (by rw [hf] <;> rfl), hf]
 refine I.write (x := p) (e := p) (by rw [h]; trivial) (.inl rfl) (fun b u hb q => (Heap.get?_update_other _ _ (Ne.symm hb)).trans q) ⟨_, e⟩ ?_
 exact ⟨hz, its', n', r, e⟩
noncomputable def Zmd : V -> V -> V -> Hp -> (Hp -> Prop) -> Prop := fun o i v H Q => ∃ p xs k j, o = .ref p /\ i = .int k /\ H p = some (.lst xs) /\ ixN xs.length k = some j /\ Q (upd H p (.lst (xs.set j v)))
theorem Zch : PSet X Zmd := by
 intro pins s σ H o i v ov iv u Q I ro ri rv h
 obtain ⟨p, xs, k, j, rfl, rfl, hp, hj, q⟩ := h
 cases ro
 obtain ⟨t, rfl⟩ := ri
 obtain ⟨its, n, r, ho, hz⟩ := I.lst hp
 obtain ⟨h1, h2, h3, h4⟩ := Zjq hj
 have hl := r.length
 have hn := Zgl
 have I' : Inv X pins σ (upd H p (.lst (xs.set j v))) { s with heap := s.heap.update p (Obj.mapSeq (·.setIfInBounds j u)) } :=
  I.lstUpd hp ho (ZhT its n j u) (r.set rv j) (by rw [List.length_set]; exact hz) s.toks
 by_cases h0 : 0 <= k
 ·have hk : k.toNat = j := by
   rw [seqIndex_of h0 h4] at h1
   exact Option.some.inj h1
  exact PySem.W.ki_setAt ho h0 (by lia) (by rw [List.size_toArray, <- hl]; exact h4) (by rw [hk]; exact ⟨_, I', q⟩)
 ·have hk : (k + (its.toArray.size : Int)).toNat = j := by
   rw [seqIndex_neg (by lia) h3] at h1
   rw [List.size_toArray, <- hl]
   exact Option.some.inj h1
  exact PySem.W.ki_setBack ho (by lia) (by rw [List.size_toArray, <- hl]; exact h3) (by lia) (by rw [hk]; exact ⟨_, I', q⟩)
theorem Zf6 (lo hi : Option Int) (n : Nat) : (sliceBounds lo hi none n).1 = ((HT.sIx n 0 lo : Nat) : Int) /\ (sliceBounds lo hi none n).2.1 = ((HT.sIx n n hi : Nat) : Int) /\ (sliceBounds lo hi none n).2.2 = 1 := by
  refine ⟨?_, ?_, rfl⟩
  · cases lo with
    | none => simp [sliceBounds, HT.sIx]
    | some i =>
      simp only [sliceBounds, HT.sIx, Option.getD_none, show (1 : Int) > 0 by decide, if_true]
      by_cases h : i < 0
      · simp only [h, if_true] <;> lia
      · simp only [h, if_false] <;> lia
  · cases hi with
    | none => simp [sliceBounds, HT.sIx]
    | some i =>
      simp only [sliceBounds, HT.sIx, Option.getD_none, show (1 : Int) > 0 by decide, if_true]
      by_cases h : i < 0
      · simp only [h, if_true] <;> lia
      · simp only [h, if_false] <;> lia
theorem Zft (its : List Value) (lo hi : Option Int) : slicePick its.toArray lo hi none = ((its.drop (HT.sIx its.length 0 lo)).take (HT.sIx its.length its.length hi - HT.sIx its.length 0 lo)).toArray := by
 obtain ⟨h1, h2, h3⟩ := Zf6 lo hi its.toArray.size
 unfold slicePick
 rw [h1, h2, h3]
 simp only [sliceRange_one, pick_run, List.size_toArray] <;> rfl
noncomputable def rSlL (K : PySem.W.Frag) : V -> Option Int -> Option Int -> Hp -> VK -> Prop := fun x lo hi H Q => ∃ a xs, x = .ref a /\ SqL K H a xs /\ ∀ p, H p = none -> Q (.ref p) (upd H p (.lst (cutV xs lo hi)))
theorem ZlA : SlR X (rSlL X.K) := by
 intro pins s σ H x v vl vu lo hi sl Q I rx hs pl pu h
 obtain ⟨a, xs, rfl, hx, q⟩ := h
 cases rx
 obtain ⟨its, r, ht, hz⟩ := I.list hx
 have hlen := r.length
 refine ⟨"list", _, slot_list_getitem.lookup, ht.isList.typeIs, ?_⟩
 refine wpAny_getItem_list_slice ht.isList hs pl pu .none (by simp) ?_ (by rw [List.size_toArray] <;> lia)
 rw [Zft, <- hlen]
 refine ⟨.ref s.heap.objs.size, _, I.laid (t' := s.toks) (o := .lst (cutV xs lo hi)) (fun b ob q => Heap.get?_push_of_some _ q) (Nat.le_refl _) ?_, rfl, q _ (I.hok.fresh (Nat.le_refl _))⟩
 exact ⟨Nat.le_trans (ZeT xs lo hi) hz, _, 0, (r.drop (HT.sIx xs.length 0 lo)).take (HT.sIx xs.length xs.length hi - HT.sIx xs.length 0 lo), Heap.get?_push_size _ rfl⟩
noncomputable def ZeS : V -> Bool
 | .non => true
 | .bl _ => true
 | .int _ => true
 | .str _ => true
 | _ => false
noncomputable def eqV : V -> V -> Bool
 | .non, .non => true
 | .bl a, .bl b => a == b
 | .bl a, .int b => (if a then 1 else 0) == b
 | .int a, .bl b => a == (if b then 1 else 0)
 | .int a, .int b => a == b
 | .str a, .str b => a == b
 | _, _ => false
theorem eqAt_V {A : Around} {s : Shared} {y x : V} {u v : Value} (ry : RelV y u) (rx : RelV x v) (fy : ZeS y = true) (fx : ZeS x = true) : SeqAt.EqAt A s u v (eqV y x) := by
  cases y with
  | non =>
    cases ry
    cases x with
    | non => cases rx; exact SeqAt.EqAt.same _
    | bl b => cases rx; exact SeqAt.EqAt.none_bool b
    | int b => obtain ⟨t, rfl⟩ := rx; exact SeqAt.EqAt.none_int b t
    | str b => obtain ⟨t, rfl⟩ := rx; exact SeqAt.EqAt.none_str b t
    | _ => exact absurd (show false = true from fx) Bool.false_ne_true
  | bl a =>
    cases ry
    cases x with
    | non => cases rx; exact SeqAt.EqAt.bool_none a
    | bl b => cases rx; exact SeqAt.EqAt.bool_bool a b
    | int b => obtain ⟨t, rfl⟩ := rx; exact SeqAt.EqAt.bool_int a b t
    | str b => obtain ⟨t, rfl⟩ := rx; exact SeqAt.EqAt.bool_str a b t
    | _ => exact absurd (show false = true from fx) Bool.false_ne_true
  | int a =>
    obtain ⟨t', rfl⟩ := ry
    cases x with
    | non => cases rx; exact SeqAt.EqAt.int_none a t'
    | bl b => cases rx; exact SeqAt.EqAt.int_bool a t' b
    | int b => obtain ⟨t, rfl⟩ := rx; exact SeqAt.EqAt.int_int a t' b t
    | str b => obtain ⟨t, rfl⟩ := rx; exact SeqAt.EqAt.int_str a t' b t
    | _ => exact absurd (show false = true from fx) Bool.false_ne_true
  | str a =>
    obtain ⟨t', rfl⟩ := ry
    cases x with
    | non => cases rx; exact SeqAt.EqAt.str_none a t'
    | bl b => cases rx; exact SeqAt.EqAt.str_bool a t' b
    | int b => obtain ⟨t, rfl⟩ := rx; exact SeqAt.EqAt.str_int a t' b t
    | str b => obtain ⟨t, rfl⟩ := rx; exact SeqAt.EqAt.str_str a t' b t
    | _ => exact absurd (show false = true from fx) Bool.false_ne_true
  | _ => exact absurd (show false = true from fy) Bool.false_ne_true
noncomputable def eqU (x : V) (u : Value) : Bool := match u with
 | .none => eqV .non x
 | .bool b => eqV (.bl b) x
 | .int i _ => eqV (.int i) x
 | .str z _ => eqV (.str z) x
 | _ => false
theorem Zlp {x y : V} {u : Value} (r : RelV y u) (f : ZeS y = true) : eqU x u = eqV y x := by
 cases y with
 | non => cases r; rfl
 | bl b => cases r; rfl
 | int i => obtain ⟨t, rfl⟩ := r; rfl
 | str z => obtain ⟨t, rfl⟩ := r; rfl
 | _ => exact absurd (show false = true from f) Bool.false_ne_true
theorem Zg4 {x : V} : ∀ {xs : List V} {us : List Value}, Vals xs us -> xs.all ZeS = true -> us.any (eqU x) = xs.any fun y => eqV y x
  | _, _, .nil, _ => rfl
  | y :: xs, u :: us, .cons r t, f => by
    rw [List.all_cons, Bool.and_eq_true] at f
    rw [List.any_cons, List.any_cons, Zlp r f.1, Zg4 t f.2]
theorem ZfK {A : Around} {s : Shared} {x : V} {v : Value} (rx : RelV x v) (fx : ZeS x = true) : ∀ {xs : List V} {us : List Value}, Vals xs us -> xs.all ZeS = true -> ∀ u ∈ us, SeqAt.EqAt A s u v (eqU x u)
  | _, _, .nil, _ => fun u hu => by cases hu
  | y :: xs, u :: us, .cons r t, f => fun u' hu => by
    rw [List.all_cons, Bool.and_eq_true] at f
    rcases List.mem_cons.mp hu with rfl | hu
    · rw [Zlp r f.1]; exact eqAt_V r rx f.1 fx
    · exact ZfK rx fx t f.2 u' hu
noncomputable def inV (x : V) (xs : List V) : Bool := xs.any fun y => eqV y x
noncomputable def rIn (K : PySem.W.Frag) (neg : Bool) : R2 := fun x y H Q => ∃ p xs, y = .ref p /\ (SqL K H p xs \/ SqT K H p xs) /\ ZeS x = true /\ xs.all ZeS = true /\ Q (.bl (if neg then !inV x xs else inV x xs)) H
theorem Zi5 : OpR X (compareOp .In) (rIn X.K false) := by
 intro pins s σ H x y v u Q I rx ry h
 obtain ⟨p, xs, rfl, hq, fx, fs, q⟩ := h
 cases ry
 rcases hq with hq | hq
 ·obtain ⟨its, r, pl, hz⟩ := I.list hq
  refine SeqAt.in_listAt (eqU x) pl.isList (fun w hw => ZfK rx fx r fs w (by simpa using hw)) ⟨.bl _, H, I, rfl, ?_⟩
  rw [show its.toArray.any (eqU x) = its.any (eqU x) by simp, Zg4 r fs]
  exact q
 ·obtain ⟨its, r, pl, hz⟩ := I.tuple hq
  refine SeqAt.in_tupleAt (eqU x) pl (fun w hw => ZfK rx fx r fs w (by simpa using hw)) ⟨.bl _, H, I, rfl, ?_⟩
  rw [show its.toArray.any (eqU x) = its.any (eqU x) by simp, Zg4 r fs]
  exact q
theorem ZfU : Zct X (.type "tuple") (fun xs H Q => ∃ p ys, xs = [.ref p] /\ ((SqL X.K H p ys /\ ∀ l, H l = none -> Q (.ref l) (upd H l (.tup ys))) \/ (SqT X.K H p ys /\ Q (.ref p) H))) := by
 intro pins s σ H xs us Q I r h
 obtain ⟨p, ys, rfl, h⟩ := h
 obtain ⟨u, rfl, rx⟩ := Zfm r
 cases rx
 rcases h with ⟨hq, q⟩ | ⟨hq, q⟩
 ·obtain ⟨its, r', pl, hz⟩ := I.list hq
  have hlen := r'.length
  refine call_tuple_list pl.isList (fun h' kp => ?_) (by simp only [List.size_toArray] <;> lia)
  have I1 : Inv X pins σ H { s with heap := h' } := I.kept (t' := s.toks) kp
  have I2 : Inv X pins σ (upd H h'.objs.size (.tup ys)) { s with heap := h'.push { cls := .type "tuple", data := .seq its.toArray } } :=
   I1.laid (t' := s.toks) (fun b o e => Heap.get?_push_of_some _ e) (Nat.le_refl _) (show ObjOk X.prog X.w _ _ _ (.tup ys) from ⟨hz, its, r', IsTup.new _ _⟩)
  exact ⟨.ref h'.objs.size, _, I2, rfl, q _ (I1.hok.fresh (Nat.le_refl _))⟩
 ·obtain ⟨its, r', pl, hz⟩ := I.tuple hq
  exact call_tuple_same pl ⟨.ref p, H, I, rfl, q⟩
noncomputable def tyV (K : PySem.W.Frag) (T : String) (x : V) (H : Hp) : Prop := match x with
 | .str _ => T = "str"
 | .int _ => T = "int"
 | .ref p => (T = "list" /\ ∃ xs, SqL K H p xs) \/ (T = "tuple" /\ ∃ o, K.lookup p = some o /\ o.cls = .type "tuple" /\ o.dict = none) \/
   (T = "dict" /\ ((∃ kvs, H p = some (.dK kvs)) \/ ∃ kvs, H p = some (.dT kvs))) \/ (T = "set" /\ ∃ S n, H p = some (.set S n))
 | _ => False
theorem Zic {pins : List (Addr × Obj)} {σ : St} {H : Hp} {s : Shared} {T : String} {x : V} {v : Value} (I : Inv X pins σ H s) (r : RelV x v) (ty : tyV X.K T x H) :
    s.TypeIs v T /\ ∀ a, v = .ref a -> ∃ ob, s.heap.get? a = some ob /\ ob.dict = none := by
  cases x with
  | str z =>
    obtain ⟨t, rfl⟩ := r
    cases (show T = "str" from ty)
    exact ⟨typeIs_str s z t, fun _ e => nomatch e⟩
  | int i =>
    obtain ⟨t, rfl⟩ := r
    cases (show T = "int" from ty)
    exact ⟨typeIs_int s i t, fun _ e => nomatch e⟩
  | ref p =>
    cases r
    rcases ty with ⟨rfl, xs, hq⟩ | ⟨rfl, o, hk, hc, hd⟩ | ⟨rfl, hk⟩ | ⟨rfl, S, n, hk⟩
    · obtain ⟨its, _, pl, _⟩ := I.list hq
      refine ⟨pl.isList.typeIs, fun a e => ?_⟩
      cases e
      obtain ⟨o, n, e, c, hd, _⟩ := pl
      exact ⟨o, e, hd⟩
    · refine ⟨⟨o, I.kIn p o hk, hc⟩, fun a e => ?_⟩
      cases e
      exact ⟨o, I.kIn _ o hk, hd⟩
    · have z : ∃ o, s.heap.get? p = some o /\ o.ExactDict := by
        rcases hk with ⟨kvs, hk⟩ | ⟨kvs, hk⟩
        · obtain ⟨_, _, _, _, o, _, _, e, ex, _⟩ := I.hok p _ hk
          exact ⟨o, e, ex⟩
        · obtain ⟨_, _, _, _, o, _, _, e, ex, _⟩ := I.hok p _ hk
          exact ⟨o, e, ex⟩
      obtain ⟨o, e, ex⟩ := z
      refine ⟨⟨o, e, ex.1⟩, fun a e2 => ?_⟩
      cases e2
      exact ⟨o, e, ex.2.1⟩
    · obtain ⟨o, _, _, _, e, ex, _⟩ := I.hok p _ hk
      refine ⟨⟨o, e, ex.1⟩, fun a e2 => ?_⟩
      cases e2
      exact ⟨o, e, ex.2.1⟩
  | _ => exact False.elim ty
noncomputable def tBM0 (K : PySem.W.Frag) (T : String) (r : V -> List V -> Hp -> VK -> Prop) (to : TE) : TE := fun σ H Q => to σ H fun x H1 => tyV K T x H1 /\ r x [] H1 Q
noncomputable def tBM (K : PySem.W.Frag) (T : String) (r : V -> List V -> Hp -> VK -> Prop) (to : TE) (t : TA) : TE := fun σ H Q => to σ H fun x H1 => tyV K T x H1 /\ t σ H1 fun xs H2 => r x xs H2 Q
variable {o e : Expr} {es : List Expr} {to : TE} {t : TA} {name : Str} {apos cpos : Pos} {T id : String} {r : V -> List V -> Hp -> VK -> Prop}
theorem pe_bm0 (pa : PlainAttrs T) (slot : Slot T name id) (hty : typeOf (.builtin id) = pure (.type "method_descriptor")) (hm : MtR X id r) (ho : PE X o to)
  (hbase : attributeBase o name X.env (eval o X.env) = eval o X.env := by rfl) (hline : (apos.endLine == cpos.line) = true := by rfl) : PE X (.Call (.Attribute o name apos) [] [] cpos) (tBM0 X.K T r to) := by
 intro pins s σ H Q I h
 refine wpAny_Call_method0_late hbase hline (thn (ho pins s σ H _ I h) fun v s1 ⟨x, H1, I1, r1, ty, q1⟩ => ?_)
 obtain ⟨h1, h2⟩ := Zic I1 r1 ty
 exact ⟨T, id, pa, slot, hty, h1, h2, Calls.callWith_builtin rfl (PySem.evalArgs_none (hm pins s1 σ H1 x [] v [] Q I1 r1 .nil q1))⟩
theorem pe_bm (pa : PlainAttrs T) (slot : Slot T name id) (hty : typeOf (.builtin id) = pure (.type "method_descriptor")) (hm : MtR X id r) (ho : PE X o to) (ha : PA X (e :: es) t)
  (hbase : attributeBase o name X.env (eval o X.env) = eval o X.env := by rfl)
  (hfew : ((backTo cpos (starEach (e :: es) X.env)).all (fun x => !x.1) && (backToKw cpos (keywordEach [] X.env)).all (fun x => x.1.isSome)
   && decide ((e :: es).length + ([] : List Keyword).length + (if ([] : List Keyword).isEmpty then 0 else 1) < 30)) = true := by rfl)
  (hline : (apos.endLine == cpos.line) = true := by rfl) (hs : starEach (e :: es) X.env = (false, eval e X.env) :: starEach es X.env := by rfl) (hplain : (backTo cpos (starEach es X.env)).any (·.1) = false := by rfl) :
  PE X (.Call (.Attribute o name apos) (e :: es) [] cpos) (tBM X.K T r to t) := by
 intro pins s σ H Q I h
 refine wpAny_Call_method_late hbase hfew hline rfl (thn (ho pins s σ H _ I h) fun v s1 ⟨x, H1, I1, r1, ty, q1⟩ => ?_)
 obtain ⟨h1, h2⟩ := Zic I1 r1 ty
 refine ⟨T, id, pa, slot, hty, h1, h2, ?_⟩
 have hA := ha cpos pins s1 σ H1 _ I1 q1
 rw [hs] at hA ⊢
 refine Calls.callWith_builtin (by show (false || (backTo cpos (starEach es X.env)).any (·.1)) = false; rw [hplain] <;> rfl) (Calls.evalArgs_plain ?_)
 exact thn hA fun us s2 ⟨vs, H2, I2, r2, q2⟩ => hm pins s2 σ H2 x vs v us Q I2 r1 r2 q2
/- xs.append(e), list.index on a module's tuple .. are MtR facts of 06m -/
end
end L2
namespace L2
open PySem PySem.Spec PyProof.Rows
noncomputable def MtM (X : Cx) (id : String) (r : V -> List V -> Hp -> VK -> Prop) : Prop :=
 ∀ (pins : List (Addr × Obj)) (s : Shared) (σ : St) (H : Hp) (x : V) (xs : List V) (v : Value) (us : List Value) (Q : VK), Inv X pins σ H s -> RelV x v -> Vals xs us -> r x xs H Q ->
  wpAny (model X.prog X.w) X.A (call (.builtin id) (v :: us)) (EP X pins σ Q) X.xe s
theorem Vals.consI {x : V} {xs : List V} {us : List Value} (h : Vals (x :: xs) us) : ∃ u ws, us = u :: ws /\ RelV x u /\ Vals xs ws := by
 cases h with
 | cons r t => exact ⟨_, _, rfl, r, t⟩
theorem Vals.nilI {us : List Value} (h : Vals [] us) : us = [] := by
 cases h
 rfl
theorem Vals.one {x : V} {us : List Value} (h : Vals [x] us) : ∃ u, us = [u] /\ RelV x u := by
 obtain ⟨u, ws, rfl, r, t⟩ := h.consI
 exact ⟨u, by rw [t.nilI], r⟩
theorem Vals.two {x y : V} {us : List Value} (h : Vals [x, y] us) : ∃ u v, us = [u, v] /\ RelV x u /\ RelV y v := by
 obtain ⟨u, ws, rfl, r, t⟩ := h.consI
 obtain ⟨v, e, q⟩ := t.one
 exact ⟨u, v, by rw [e], r, q⟩
theorem Vals.rep {xs : List V} {us : List Value} (h : Vals xs us) : ∀ k : Nat, Vals (List.replicate k xs).flatten (List.replicate k us).flatten
  | 0 => .nil
  | k + 1 => by
    rw [List.replicate_succ, List.replicate_succ, List.flatten_cons, List.flatten_cons]
    exact Vals.append h (Vals.rep h k)
theorem Zgp (its : List Value) : ∀ (k : Nat) (acc : List Value),
    List.foldl (fun x1 x2 => x1 ++ x2) acc.toArray (List.replicate k its.toArray) = (acc ++ (List.replicate k its).flatten).toArray
  | 0, acc => by simp
  | k + 1, acc => by
    have e : acc.toArray ++ its.toArray = (acc ++ its).toArray := by simp
    have e2 : (acc ++ its) ++ (List.replicate k its).flatten = acc ++ (List.replicate (k + 1) its).flatten := by
      rw [List.replicate_succ, List.flatten_cons, List.append_assoc]
    rw [<- e2, <- Zgp its k (acc ++ its), <- e, List.replicate_succ, List.foldl_cons]
section
variable {X : Cx} {pins : List (Addr × Obj)} {σ : St} {H : Hp} {s : Shared} {l b : Addr} {xs ys zs : List V}
theorem Inv.lset {its its' : List Value} {n : Nat} {f : Array Value -> Array Value} {t' : Nat} (I : Inv X pins σ H s) (hH : H l = some (.lst xs))
  (e : s.heap.get? l = some { cls := .type "list", data := .seq its.toArray n }) (hf : f its.toArray = its'.toArray) (hv : Vals ys its') (hz : ys.length <= sizeLine) :
  Inv X pins σ (upd H l (.lst ys)) { s with heap := s.heap.update l (Obj.mapSeq f), toks := t' } := by
 have q := PySem.IsL.update e f
 rw [hf] at q
 refine I.write (x := l) (e := l) (by rw [hH]; exact trivial) (.inl rfl) (fun b' u hb hu => (Heap.get?_update_other s.heap (Obj.mapSeq f) (Ne.symm hb)).trans hu) ⟨_, q⟩ ?_
 exact ⟨hz, its', _, hv, q⟩
theorem Inv.lnew {its : List Value} {t' : Nat} (I : Inv X pins σ H s) (hv : Vals ys its) (hz : ys.length <= sizeLine) :
  Inv X pins σ (upd H s.heap.objs.size (.lst ys)) { s with heap := s.heap.push { cls := .type "list", data := .seq its.toArray }, toks := t' } :=
 I.laid (fun _ _ q => Heap.get?_push_of_some _ q) (Nat.le_refl _) ⟨hz, its, 0, hv, Heap.get?_push_size _ rfl⟩
theorem Inv.fresh (I : Inv X pins σ H s) : H s.heap.objs.size = none := I.hok.fresh (Nat.le_refl _)
theorem Inv.lstM (I : Inv X pins σ H s) (hH : H l = some (.lst xs)) : xs.length <= sizeLine /\ ∃ (its : List Value) (n : Nat), Vals xs its /\ xs.length = its.length /\ s.heap.get? l = some { cls := .type "list", data := .seq its.toArray n } := by
 obtain ⟨z, its, n, r, e⟩ := I.hok l _ hH
 exact ⟨z, its, n, r, r.length, e⟩
theorem Zhr {n : Nat} (h : n <= sizeLine) : Builtin.List.listTooLong n = false := by
 unfold Builtin.List.listTooLong
 exact decide_eq_false (by lia)
end
section
variable {X : Cx}
noncomputable def ZiT : V -> List V -> Hp -> VK -> Prop := fun x vs H Q => ∃ l xs y, x = .ref l /\ vs = [y] /\ H l = some (.lst xs) /\ xs.length < sizeLine /\ Q .non (upd H l (.lst (xs ++ [y])))
theorem Zbb : MtM X "list.append" ZiT := by
 intro pins s σ H x vs v us Q I rx rv h
 obtain ⟨l, xs, y, rfl, rfl, hH, hz, q⟩ := h
 cases rx
 obtain ⟨u, rfl, ru⟩ := rv.one
 obtain ⟨z, its, n, r, hl, e⟩ := I.lstM hH
 refine call_meets F.slot_list_append ⟨_, e, rfl⟩ F.entry_list_append (F.args_list_append_2 _ _) (PySem.list_append l its.toArray n u (by rw [List.size_toArray]; lia)) ⟨e, ?_⟩
 refine ⟨.non, _, I.lset (its' := its ++ [u]) hH e (by simp) (r.append (.cons ru .nil)) ?_, rfl, q⟩
 rw [List.length_append, List.length_singleton]
 lia
noncomputable def Zme : V -> List V -> Hp -> VK -> Prop := fun x vs H Q => ∃ l b xs zs, x = .ref l /\ vs = [.ref b] /\ H l = some (.lst xs) /\ H b = some (.lst zs) /\ xs.length + zs.length <= sizeLine /\ Q .non (upd H l (.lst (xs ++ zs)))
theorem mt_extend : MtM X "list.extend" Zme := by
 intro pins s σ H x vs v us Q I rx rv h
 obtain ⟨l, b, xs, zs, rfl, rfl, hH, hB, hz, q⟩ := h
 cases rx
 obtain ⟨u, rfl, ru⟩ := rv.one
 cases ru
 obtain ⟨z, its, n, r, hl, e⟩ := I.lstM hH
 obtain ⟨z2, its2, n2, r2, hl2, e2⟩ := I.lstM hB
 have hsz : its.toArray.size + its2.toArray.size <= sizeLine := by rw [List.size_toArray, List.size_toArray]; lia
 have hlong : ¬ (!its.toArray.isEmpty && Builtin.List.listTooLong (its.toArray.size + its2.toArray.size)) = true := by
  rw [Zhr hsz, Bool.and_false]
  exact Bool.false_ne_true
 refine call_meets F.slot_list_extend ⟨_, e, rfl⟩ F.entry_list_extend (F.args_list_extend_2 _ _)
  (AutoSeq1.list_extend_list_list_0 l its.toArray n b its2.toArray n2 hlong (by rw [List.size_toArray]; lia) (by lia)) ⟨e, e2, ?_⟩
 refine ⟨.non, _, I.lset (its' := its ++ its2) hH e (by simp) (r.append r2) ?_, rfl, q⟩
 rw [List.length_append]
 lia
noncomputable def rCat : R2 := fun x y H Q => ∃ l b xs zs, x = .ref l /\ y = .ref b /\ H l = some (.lst xs) /\ H b = some (.lst zs) /\ xs.length + zs.length <= sizeLine /\ ∀ p, H p = none -> Q (.ref p) (upd H p (.lst (xs ++ zs)))
theorem ZbU : OpR X (binaryOp .Add) rCat := by
 intro pins s σ H x y v u Q I rx ry h
 obtain ⟨l, b, xs, zs, rfl, rfl, hH, hB, hz, q⟩ := h
 cases rx
 cases ry
 obtain ⟨z, its, n, r, hl, e⟩ := I.lstM hH
 obtain ⟨z2, its2, n2, r2, hl2, e2⟩ := I.lstM hB
 refine PySem.P.add_list e e2 ?_ (by rw [List.size_toArray, List.size_toArray]; lia)
 have ea : its.toArray ++ its2.toArray = (its ++ its2).toArray := by simp
 rw [ea]
 exact ⟨.ref _, _, I.lnew (t' := s.toks) (r.append r2) (by rw [List.length_append]; lia), rfl, q _ I.fresh⟩
noncomputable def rRep : R2 := fun x y H Q => ∃ l k xs, x = .ref l /\ y = .int k /\ H l = some (.lst xs) /\ -(2 ^ 63) <= k /\ k < 2 ^ 63 /\ xs.length * k.toNat <= sizeLine /\
 ∀ p, H p = none -> Q (.ref p) (upd H p (.lst (List.replicate k.toNat xs).flatten))
theorem ZmA {α : Type} (xs : List α) (k : Nat) : (List.replicate k xs).flatten.length = k * xs.length := by
 induction k with
 | zero => simp
 | succ k ih => rw [List.replicate_succ, List.flatten_cons, List.length_append, ih, Nat.succ_mul, Nat.add_comm]
theorem Zli : OpR X (binaryOp .Mult) rRep := by
 intro pins s σ H x y v u Q I rx ry h
 obtain ⟨l, k, xs, rfl, rfl, hH, h1, h2, hz, q⟩ := h
 cases rx
 obtain ⟨t, rfl⟩ := ry
 obtain ⟨z, its, n, r, hl, e⟩ := I.lstM hH
 have hlen : its.toArray.size * k.toNat <= sizeLine := by rw [List.size_toArray, <- hl]; exact hz
 have hcap : ¬ its.toArray.size * k.toNat > (2 ^ 63 - 1) / 8 := by
  have : (sizeLine : Nat) <= (2 ^ 63 - 1) / 8 := by decide
  lia
 have hfit : ¬ (!Builtin.List.listFitsIndex k) = true := by
  rw [fitsIndex_both h1 h2]
  exact Bool.false_ne_true
 have hlong : ¬ Builtin.List.listTooLong (its.toArray.size * k.toNat) = true := by
  rw [Zhr hlen]
  exact Bool.false_ne_true
 have hnew : List.foldl (fun x1 x2 => x1 ++ x2) #[] (List.replicate (if its.toArray.isEmpty = true then 0 else k.toNat) its.toArray) = (List.replicate k.toNat its).flatten.toArray := by
  have f0 : ∀ m : Nat, List.foldl (fun x1 x2 => x1 ++ x2) #[] (List.replicate m its.toArray) = (List.replicate m its).flatten.toArray := fun m => by
   have := Zgp its m []
   rw [List.nil_append] at this
   exact this
  rw [f0]
  cases its with
  | nil => simp
  | cons a r' => rw [if_neg (by simp)]
 refine wpAny_binaryOp_repeat_ref (T := "list") (U := "int") (by decide) ⟨_, e, rfl⟩ (fun s' => typeIs_int s' k t) noFill_list_mul F.fills_int_mul F.slot_int_rmul repeat_list F.slot_int_index.lookup
  (call_meets F.slot_int_rmul (typeIs_int s k t) F.entry_int_rmul (F.args_int_rmul_2 _ _) (int___rmul___int_list k t l its.toArray n)
   ⟨e, rfl, ⟨_, e, rfl⟩, call_meets F.slot_list_mul ⟨_, e, rfl⟩ F.entry_list_mul (F.args_list_mul_2 _ _) (AutoListH.list___mul___list_int_3 l its.toArray n k t hfit hcap hlong) ⟨e, ?_⟩⟩)
 rw [hnew]
 exact ⟨.ref _, _, I.lnew (t' := s.toks) (r.rep k.toNat) (by rw [ZmA, Nat.mul_comm]; exact hz), rfl, q _ I.fresh⟩
end
section
variable {prog : Program} {w : World} {A : Around} {E : Value -> Shared -> Prop} {s : Shared}
set_option maxRecDepth 100000 in
end
section
variable {X : Cx}
end
end L2
namespace L2
open PySem PySem.Spec PyProof.Rows
section
variable {κ : Type} [DecidableEq κ]
noncomputable def valV (kvs : List (κ × V)) (k : κ) : Option V := (kvs.find? fun kv => decide (kv.1 = k)).map (·.2)
noncomputable def putK (kvs : List (κ × V)) (k : κ) (v : V) : List (κ × V) :=
 if (kvs.any fun kv => decide (kv.1 = k)) = true then kvs.map (fun kv => if kv.1 = k then (kv.1, v) else kv) else kvs ++ [(k, v)]
theorem Zfn {p : κ × V} {r : List (κ × V)} {k : κ} (e : p.1 = k) : valV (p :: r) k = some p.2 := by simp [valV, List.find?_cons, e]
theorem Zfo {p : κ × V} {r : List (κ × V)} {k : κ} (e : ¬ p.1 = k) : valV (p :: r) k = valV r k := by simp [valV, List.find?_cons, e]
theorem Zfp (k : κ) : ∀ kvs : List (κ × V), (kvs.any fun kv => decide (kv.1 = k)) = (valV kvs k).isSome
  | [] => rfl
  | p :: r => by
    rw [List.any_cons]
    by_cases e : p.1 = k
    · simp only [Zfn e, decide_eq_true e, Bool.true_or, Option.isSome_some]
    · rw [Zfo e, decide_eq_false e, Bool.false_or]; exact Zfp k r
theorem ZgN (kvs : List (κ × V)) (k : κ) (v : V) : (putK kvs k v).length <= kvs.length + 1 := by
 unfold putK
 split
 ·rw [List.length_map]; lia
 ·rw [List.length_append, List.length_cons, List.length_nil]; lia
theorem Zko {kvs : List (κ × V)} {k : κ} (v : V) (h : valV kvs k = none) : putK kvs k v = kvs ++ [(k, v)] := by
 unfold putK
 rw [Zfp, h]
 exact if_neg (by decide)
theorem RelO.getD {o : Option V} {u : Option Value} {d : V} {d' : Value} (r : RelO o u) (rd : RelV d d') : RelV (o.getD d) (u.getD d') := by
  cases o with
  | none => cases u with
    | none => exact rd
    | some _ => exact (show False from r).elim
  | some _ => cases u with
    | none => exact (show False from r).elim
    | some _ => exact r
theorem KV.val {kvs : List (κ × V)} {vs : List (κ × Value)} (r : KV kvs vs) (k : κ) : RelO (valV kvs k) (valueAt vs k) := by
  unfold KV at r
  induction r with
  | nil => exact True.intro
  | @cons p q ps qs h t ih =>
    obtain ⟨h1, h2⟩ := h
    by_cases e : p.1 = k
    · have e' : q.1 = k := h1.symm.trans e
      have b : valueAt (q :: qs) k = some q.2 := by simp [valueAt, List.find?_cons, e']
      rw [Zfn e, b]; exact h2
    · have e' : ¬ q.1 = k := fun z => e (h1.trans z)
      have b : valueAt (q :: qs) k = valueAt qs k := by simp [valueAt, List.find?_cons, e']
      rw [Zfo e, b]; exact ih
theorem KV.any {kvs : List (κ × V)} {vs : List (κ × Value)} (r : KV kvs vs) (k : κ) : (kvs.any fun kv => decide (kv.1 = k)) = vs.any fun kv => decide (kv.1 = k) := by
 unfold KV at r
 induction r with
 | nil => rfl
 | cons h t ih => rw [List.any_cons, List.any_cons, ih, h.1]
theorem KV.repl {kvs : List (κ × V)} {vs : List (κ × Value)} (r : KV kvs vs) (k : κ) {y : V} {u : Value} (ry : RelV y u) :
    KV (kvs.map fun kv => if kv.1 = k then (kv.1, y) else kv) (vs.map fun kv => if kv.1 = k then (kv.1, u) else kv) := by
  unfold KV at r ⊢
  induction r with
  | nil => exact .nil
  | @cons p q ps qs h t ih =>
    rw [List.map_cons, List.map_cons]
    refine .cons ?_ ih
    obtain ⟨h1, h2⟩ := h
    by_cases e : p.1 = k
    · rw [if_pos e, if_pos (h1.symm.trans e)]; exact ⟨h1, ry⟩
    · rw [if_neg e, if_neg (fun z => e (h1.trans z))]; exact ⟨h1, h2⟩
theorem KV.put {kvs : List (κ × V)} {vs : List (κ × Value)} (r : KV kvs vs) (k : κ) {y : V} {u : Value} (ry : RelV y u) : KV (putK kvs k y) (stored vs k u) := by
 unfold putK stored
 rw [r.any k]
 by_cases e : (vs.any fun kv => decide (kv.1 = k)) = true
 ·rw [if_pos e, if_pos e]; exact r.repl k ry
 ·rw [if_neg e, if_neg e]; exact Paired.snoc r ⟨rfl, ry⟩
end
theorem ZhW {P : Program} {w : World} {k : Key} {u : Value} (r : RelV (kV k) u) : (Zby P w).is k u = true := by
 cases k with
 | inl i => obtain ⟨t, e⟩ := (show ∃ t, u = Value.int i t from r); subst e; exact ZgL P w i t
 | inr x => obtain ⟨t, e⟩ := (show ∃ t, u = Value.str x t from r); subst e; exact Zdr P w x t
theorem Zgn {P : Program} {w : World} : ∀ {ks : List Key} {us : List Value}, Vals (ks.map kV) us -> ItemsAre (Zby P w) ks us
  | [], _, r => by rw [List.map_nil] at r; cases r; exact .nil
  | k :: ks, _, r => by
    rw [List.map_cons] at r
    cases r with
    | cons h t => exact .cons (ZhW h) (Zgn t)
noncomputable abbrev KT (H : Hp) : List (List Key × V) -> List (List Key × Addr × Value) -> Prop := Paired fun p q => p.1 = q.1 /\ H q.2.1 = some (.tup (p.1.map kV)) /\ RelV p.2 q.2.2
theorem KT.val {H : Hp} {kvs : List (List Key × V)} {xs : List (List Key × Addr × Value)} (r : KT H kvs xs) (k : List Key) : RelO (valV kvs k) ((atKey xs k).map (·.2)) := by
  induction r with
  | nil => exact True.intro
  | @cons p q ps qs h t ih =>
    obtain ⟨h1, _, h2⟩ := h
    by_cases e : p.1 = k
    · have e' : q.1 = k := h1.symm.trans e
      have b : atKey (q :: qs) k = some q.2 := by simp [atKey, List.find?_cons, e']
      rw [Zfn e, b]; exact h2
    · have e' : ¬ q.1 = k := fun z => e (h1.trans z)
      have b : atKey (q :: qs) k = atKey qs k := by simp [atKey, List.find?_cons, e']
      rw [Zfo e, b]; exact ih
section
variable {P : Program} {w : World} {H : Hp} {h : Heap} {a : Addr}
theorem rd_of {u : HO} (ok : HOk P w H h) (e : Rd H a u) : ObjOk P w H h a u := e.ok ok
theorem Zjy {kvs : List (Key × V)} (ok : HOk P w H h) (e : Rd H a (.dK kvs)) : kvs.length <= sizeLine /\ (a == sysModules) = false /\ ∃ vs, KV kvs vs /\ h.DictOf (Zby P w) a vs :=
 show ObjOk P w H h a (.dK kvs) from rd_of ok e
theorem dk_of {kvs : List (Key × V)} (ok : HOk P w H h) (e : H a = some (.dK kvs)) : kvs.length <= sizeLine /\ (a == sysModules) = false /\ ∃ vs, KV kvs vs /\ h.DictOf (Zby P w) a vs := Zjy ok (.inl e)
theorem Zji {ks : List Key} (ok : HOk P w H h) (e : H a = some (.tup (ks.map kV))) : (tupleKind (Zby P w)).is h ks a := by
 obtain ⟨_, its, r, o, h1, h2, n, h3⟩ := (show ObjOk P w H h a (.tup (ks.map kV)) from ok a _ e)
 exact ⟨o, its.toArray, n, h1, h2, h3, by simpa using Zgn r⟩
theorem ZkW {kvs : List (List Key × V)} (ok : HOk P w H h) (e : Rd H a (.dT kvs)) : kvs.length <= sizeLine /\ (a == sysModules) = false /\
    ∃ xs, KT H kvs xs /\ h.DictOfH (tupleKind (Zby P w)) a xs := by
  obtain ⟨z, y, xs, r, o, es, ep, h1, h2, h3, h4, h5⟩ := (show ObjOk P w H h a (.dT kvs) from rd_of ok e)
  refine ⟨z, y, xs, r, o, es, ep, h1, h2, h3, h4, fun x hx => ?_, h5⟩
  have all : ∀ {l : List (List Key × V)} {m : List (List Key × Addr × Value)}, KT H l m -> ∀ x ∈ m, (tupleKind (Zby P w)).is h x.1 x.2.1 := by
    intro l m q
    induction q with
    | nil => intro x hx; exact nomatch hx
    | @cons p q ps qs hq t ih =>
      intro x hx
      rcases List.mem_cons.mp hx with e | hx
      · subst e
        exact Zji ok (by rw [<- hq.1]; exact hq.2.1)
      · exact ih x hx
  exact all r x hx
end
noncomputable def DGet (H : Hp) (a : Addr) (y : V) (r : Option V) : Prop :=
 (∃ kvs k, Rd H a (.dK kvs) /\ y = kV k /\ r = valV kvs k) \/ ∃ kvs k b, Rd H a (.dT kvs) /\ y = .ref b /\ H b = some (.tup (k.map kV)) /\ r = valV kvs k
theorem DGet.k {H : Hp} {a : Addr} {kvs : List (Key × V)} {k : Key} (e : H a = some (.dK kvs)) : DGet H a (kV k) (valV kvs k) := .inl ⟨kvs, k, .inl e, rfl, rfl⟩
section
variable {X : Cx} {pins : List (Addr × Obj)} {σ : St} {H : Hp} {s : Shared} {a : Addr} {y v : V} {u r : Value} {o : Option V} {A : Around} {E : Value -> Shared -> Prop}
theorem Inv.big (I : Inv X pins σ H s) : sysModules < s.heap.objs.size := by
 have h : mainGlobals < s.heap.objs.size := (I.mod.glob.keeps I.bk).lt
 exact Nat.lt_trans (by decide) h
theorem ZjA {Q : Value -> Shared -> Prop} (hu : A.units + 1 < cLine) (I : Inv X pins σ H s) (g : DGet H a y (some v)) (ry : RelV y u) (h : ∀ w' s', Inv X pins σ H s' -> RelV v w' -> Q w' s') :
  wpAny (model X.prog X.w) A (getItem (.ref a) u) Q E s := by
 rcases g with ⟨kvs, k, e, ey, l⟩ | ⟨kvs, k, b, e, ey, eb, l⟩
 ·subst ey
  obtain ⟨z, hd, vs, rel, dd⟩ := Zjy I.hok e
  obtain ⟨w', hw, rw'⟩ := RelO.some_of (v := v) (o := valueAt vs k) (by rw [l]; exact rel.val k)
  exact wpAny_getItem_of (ZhW ry) dd.mapOf hw (h w' _ (I.tok _) rw')
 ·subst ey
  cases (show u = Value.ref b from ry)
  obtain ⟨z, hd, xs, rel, dd⟩ := ZkW I.hok e
  obtain ⟨w', hw, rw'⟩ := RelO.some_of (v := v) (o := (atKey xs k).map (·.2)) (by rw [l]; exact rel.val k)
  obtain ⟨p, hp, hp2⟩ := Option.map_eq_some_iff.mp hw
  refine wpAny_getItem_heap (tupleKind_room_in1 hu) (Zji I.hok eb) dd hp ?_
  rw [hp2]
  exact h w' _ (I.tok _) rw'
theorem ZmQ {h' : Heap} {t' : Nat} {ob : HO} (I : Inv X pins σ H s) (mu : Mut (H a)) (hs : Heap.SameBut a s.heap h') (he : ∃ q, h'.get? a = some q) (new : ObjOk X.prog X.w (upd H a ob) h' a ob) :
  Inv X pins σ (upd H a ob) { s with heap := h', toks := t' } :=
 I.write (x := a) (e := a) mu (.inl rfl) (fun b q hb z => (hs.2 b hb).trans z) he new
theorem dk_new {P : Program} {w : World} {H' : Hp} {h' : Heap} {kvs : List (Key × V)} {vs : List (Key × Value)} (z : kvs.length <= sizeLine) (hd : (a == sysModules) = false) (rel : KV kvs vs) (dd : h'.DictOf (Zby P w) a vs) :
  ObjOk P w H' h' a (.dK kvs) := ⟨z, hd, vs, rel, dd⟩
end
section
variable {X : Cx} {pins : List (Addr × Obj)} {σ : St} {H : Hp} {s : Shared} {a : Addr} {kvs : List (Key × V)} {k : Key} {u : Value} {A : Around} {E : Value -> Shared -> Prop}
end
noncomputable def NoSl (i : Expr) : Prop := ∀ ov iv, subscripted i false ov iv = operate [ov, iv] (getItem ov iv)
theorem Zih {prog : Program} {w : World} {A : Around} {E : Value -> Shared -> Prop} {s : Shared} {env : Env} {value slice : Expr} {pos : Pos} {T id : String} {Q : Value -> Shared -> Prop}
  (hl : typeLookup (.type T) "__getitem__" = pure (some (.builtin id))) (hs : NoSl slice)
  (h : wpAny (model prog w) A (eval value env) (fun o s₁ => wpAny (model prog w) A (eval slice env) (fun i s₂ => s₂.TypeIs o T /\ wpAny (model prog w) A (getItem o i) Q E s₂) E s₁) E s) :
  wpAny (model prog w) A (eval (.Subscript value slice pos) env) Q E s := by
 refine Subscript_ (wpAny_mono h (fun o s₁ h₁ => wpAny_mono h₁ (fun i s₂ h₂ => ?_) fun _ _ x => x) fun _ _ x => x)
 obtain ⟨hT, h₂⟩ := h₂
 unfold subscriptTail
 refine wpAny_bind ?_
 rw [getitemInPython_of_ne hT.not_modules]
 refine wpAny_bind (wpAny_specialOf hT hl ?_)
 have fin : wpAny (model prog w) A (subscripted slice false o i) (fun r s₃ => wpAny (model prog w) A (letTemporaryGo value o r >>= fun _ => pure r) Q E s₃) E s₂ := by
  rw [hs o i]
  exact wpAny_operating (wpAny_mono h₂ (fun r s₃ h₃ => wpAny_bind (wpAny_letTemporaryGo (wpAny_pure h₃))) fun _ _ x => x)
 first
  | exact wpAny_pure (wpAny_bind fin)
  | exact wpAny_bind (wpAny_pure (wpAny_bind fin))
  | exact wpAny_bind fin
theorem ZgR {X : Cx} {pins : List (Addr × Obj)} {σ : St} {H : Hp} {s : Shared} {a : Addr} {y : V} {o : Option V} (I : Inv X pins σ H s) (g : DGet H a y o) : s.TypeIs (.ref a) "dict" := by
 rcases g with ⟨kvs, k, e, _, _⟩ | ⟨kvs, k, b, e, _, _, _⟩
 ·obtain ⟨_, _, vs, _, dd⟩ := Zjy I.hok e
  exact dd.typeIs
 ·obtain ⟨_, _, xs, _, dd⟩ := ZkW I.hok e
  exact dd.typeIs
noncomputable def tDGet (td ty : TE) : TE := fun σ H Q => td σ H fun x H1 => ty σ H1 fun y H2 => ∃ a v, x = .ref a /\ DGet H2 a y (some v) /\ Q v H2
section
variable {X : Cx} {o i e value : Expr} {pos pos' tpos : Pos} {td ty tv : TE}
theorem ZiY (hu : X.A.units + 1 < cLine) (ho : PE X o td) (hi : PE X i ty) (hs : NoSl i) : PE X (.Subscript o i pos) (tDGet td ty) := by
 intro pins s σ H Q I h
 refine Zih PySem.F.slot_dict_getitem.lookup hs (thn (ho pins s σ H _ I h) fun u s1 ⟨x, H1, I1, rx, q1⟩ => thn (hi pins s1 σ H1 _ I1 q1) fun iv s2 ⟨y, H2, I2, ry, a, v, ex, g, q2⟩ => ?_)
 subst ex
 obtain rfl : u = Value.ref a := rx
 exact ⟨ZgR I2 g, ZjA hu I2 g ry fun w' s3 I3 rw' => ⟨v, H2, I3, rw', q2⟩⟩
end
theorem ZkX {P : Program} {w : World} {H : Hp} (h : Heap) (hb : sysModules < h.objs.size) : ObjOk P w H (h.push { cls := .type "dict", data := .dict #[] }) h.objs.size (.dK []) :=
 ⟨Nat.zero_le _, beq_eq_false_iff_ne.mpr (Ne.symm (Nat.ne_of_lt hb)), [], .nil, Heap.DictOf.new h⟩
section
variable {X : Cx} {pos : Pos}
end
noncomputable def Zhb : List (TE × TE) -> St -> Hp -> (List (V × V) -> Hp -> Prop) -> Prop
 | [], _, H, Q => Q [] H
 | (tk, tv) :: r, σ, H, Q => tk σ H fun x H1 => tv σ H1 fun y H2 => Zhb r σ H2 fun ps H3 => Q ((x, y) :: ps) H3
noncomputable abbrev VV : List (V × V) -> List (Value × Value) -> Prop := Paired fun p q => RelV p.1 q.1 /\ RelV p.2 q.2
noncomputable def PPs (X : Cx) (pos : Pos) (keys : List (Option Expr)) (values : List Expr) (trs : List (TE × TE)) : Prop :=
 ∀ (pins : List (Addr × Obj)) (s : Shared) (σ : St) (H : Hp) (Q : List (V × V) -> Hp -> Prop), Inv X pins σ H s -> Zhb trs σ H Q ->
  wpAny (model X.prog X.w) X.A (evalPairs (pairTrees keys values X.env pos)) (fun vs s' => ∃ ps H', Inv X pins σ H' s' /\ VV ps vs /\ Q ps H') X.xe s
theorem Zmk {X : Cx} {pos : Pos} : PPs X pos [] [] [] := fun pins s σ H Q I h => pairTrees_nil_walk ⟨[], H, I, .nil, h⟩
theorem Zks {X : Cx} {pos : Pos} {k v : Expr} {ks : List (Option Expr)} {vs : List Expr} {tk tv : TE} {trs : List (TE × TE)} (hk : PE X k tk) (hv : PE X v tv) (hr : PPs X pos ks vs trs) :
  PPs X pos (some k :: ks) (v :: vs) ((tk, tv) :: trs) := fun pins s σ H Q I h =>
 pairTrees_cons_walk (thn (hk pins s σ H _ I h) fun u s1 ⟨x, H1, I1, rx, q1⟩ => thn (hv pins s1 σ H1 _ I1 q1) fun w2 s2 ⟨y, H2, I2, ry, q2⟩ =>
  thn (hr pins s2 σ H2 _ I2 q2) fun ws s3 ⟨ps, H3, I3, rel, q3⟩ => ⟨(x, y) :: ps, H3, I3, .cons ⟨rx, ry⟩ rel, q3⟩)
noncomputable def Zeb (kvs more : List (Key × V)) : List (Key × V) := more.foldl (fun acc kv => putK acc kv.1 kv.2) kvs
theorem KV.merge : ∀ {more : List (Key × V)} {rs : List (Key × Value)} {kvs : List (Key × V)} {vs : List (Key × Value)}, KV more rs -> KV kvs vs -> KV (Zeb kvs more) (merged vs rs) := by
  intro more rs kvs vs r
  unfold KV at r
  induction r generalizing kvs vs with
  | nil => intro q; exact q
  | @cons p q ps qs h t ih =>
    intro r0
    have e : KV (putK kvs p.1 p.2) (stored vs q.1 q.2) := by
      have := r0.put p.1 h.2
      rw [<- h.1]; exact this
    exact ih e
theorem ZdG : ∀ (more kvs : List (Key × V)), (Zeb kvs more).length <= kvs.length + more.length
  | [], kvs => by show kvs.length <= kvs.length + 0; lia
  | p :: r, kvs => by
    have h1 := ZdG r (putK kvs p.1 p.2)
    have h2 := ZgN kvs p.1 p.2
    show (Zeb (putK kvs p.1 p.2) r).length <= _
    rw [List.length_cons]; lia
theorem Zfj {P : Program} {w : World} : ∀ {kvs : List (Key × V)} {ws : List (Value × Value)}, VV (kvs.map fun kv => (kV kv.1, kv.2)) ws -> ∃ rs, Carries (Zby P w) ws rs /\ KV kvs rs
  | [], _, r => by rw [List.map_nil] at r; cases r; exact ⟨[], True.intro, .nil⟩
  | p :: kvs, _, r => by
    rw [List.map_cons] at r
    cases r with
    | @cons a b as bs h t =>
      obtain ⟨rs, c, q⟩ := Zfj (P := P) (w := w) t
      obtain ⟨b1, b2⟩ := b
      exact ⟨(p.1, b2) :: rs, ⟨ZhW h.1, rfl, c⟩, .cons ⟨rfl, h.2⟩ q⟩
noncomputable def tDisp (trs : List (TE × TE)) : TE := fun σ H Q => ∀ p, H p = none -> Zhb trs σ (upd H p (.dK [])) fun ps H2 => H2 p = some (.dK []) /\ ∃ kvs : List (Key × V), ps = kvs.map (fun kv => (kV kv.1, kv.2)) /\ kvs.length <= 15 /\ Q (.ref p) (upd H2 p (.dK (Zeb [] kvs)))
theorem Zmn {X : Cx} {pos : Pos} {keys : List (Option Expr)} {values : List Expr} {trs : List (TE × TE)} (h : PPs X pos keys values trs) (hall : keys.all (·.isSome) = true) (hl : keys.length = values.length) (h0 : keys ≠ [])
  (h15 : keys.length <= 15) : PE X (.Dict keys values pos) (tDisp trs) := by
 intro pins s σ H Q I q
 have hn := I.hok.fresh (Nat.le_refl s.heap.objs.size)
 have I1 := I.laid (a := s.heap.objs.size) (o := .dK []) (h' := s.heap.push { cls := .type "dict", data := .dict #[] }) (t' := s.toks) (fun _ _ q => Heap.get?_push_of_some _ q) (Nat.le_refl _) (ZkX s.heap I.big)
 refine wpAny_Dict_walk (knd := Zby X.prog X.w) hall hl h0 h15 (thn (h pins _ σ _ _ I1 (q _ hn)) fun ws s2 ⟨ps, H2, I2, rel, e, kvs, ep, lk, q2⟩ => ?_)
 subst ep
 obtain ⟨rs, c, rk⟩ := Zfj (P := X.prog) (w := X.w) rel
 obtain ⟨z, hd, vs0, r0, dd⟩ := dk_of I2.hok e
 cases r0
 refine ⟨rs, c, dd, fun h' dd' hs => ⟨.ref s.heap.objs.size, _, ?_, rfl, q2⟩⟩
 have hz : (Zeb [] kvs).length <= sizeLine := by
  have h1 := ZdG kvs []
  rw [List.length_nil] at h1
  rw [sizeLine_eq]; lia
 have he : ∃ q, h'.get? s.heap.objs.size = some q := let ⟨q, _, _, hq, _⟩ := dd'; ⟨q, hq⟩
 exact ZmQ I2 (by rw [e]; exact True.intro) hs he (dk_new hz hd (rk.merge .nil) dd')
structure M1 (X : Cx) (o : Expr) (m : Str) (apos : Pos) (e : Expr) (cpos : Pos) : Prop where
 base : attributeBase o m X.env (eval o X.env) = eval o X.env
 few : ((backTo cpos (starEach [e] X.env)).all (fun x => !x.1) && (backToKw cpos (keywordEach [] X.env)).all (fun x => x.1.isSome)
  && decide (([e] : List Expr).length + ([] : List Keyword).length + (if ([] : List Keyword).isEmpty then 0 else 1) < 30)) = true
 line : (apos.endLine == cpos.line) = true
 trees : backTo cpos (starEach [e] X.env) = [(false, eval e X.env)]
noncomputable def IsD (H : Hp) (a : Addr) : Prop := (∃ kvs, Rd H a (.dK kvs)) \/ ∃ kvs, Rd H a (.dT kvs)
theorem isD_at {X : Cx} {pins : List (Addr × Obj)} {σ : St} {H : Hp} {s : Shared} {a : Addr} (I : Inv X pins σ H s) (d : IsD H a) :
  s.TypeIs (.ref a) "dict" /\ (∀ b, Value.ref a = .ref b -> ∃ ob, s.heap.get? b = some ob /\ ob.dict = none) /\ (a == sysModules) = false := by
 rcases d with ⟨kvs, e⟩ | ⟨kvs, e⟩
 ·obtain ⟨_, hd, vs, _, dd⟩ := Zjy I.hok e
  refine ⟨dd.typeIs, fun b q => ?_, hd⟩
  cases q
  obtain ⟨ob, _, _, h1, h2, _⟩ := dd
  exact ⟨ob, h1, h2.2.1⟩
 ·obtain ⟨_, hd, xs, _, dd⟩ := ZkW I.hok e
  refine ⟨dd.typeIs, fun b q => ?_, hd⟩
  cases q
  obtain ⟨ob, _, _, h1, h2, _⟩ := dd
  exact ⟨ob, h1, h2.2.1⟩
section
variable {X : Cx} {pins : List (Addr × Obj)} {σ : St} {H : Hp} {s : Shared} {a : Addr} {y d : V} {u r : Value} {o : Option V} {A : Around} {E : Value -> Shared -> Prop}
theorem d_get1 {Q : Value -> Shared -> Prop} (hu : A.units + 1 < cLine) (I : Inv X pins σ H s) (g : DGet H a y o) (ry : RelV y u) (h : ∀ w' s', Inv X pins σ H s' -> RelV (o.getD .non) w' -> Q w' s') :
  wpAny (model X.prog X.w) A (call (.builtin "dict.get") [.ref a, u]) Q E s := by
 rcases g with ⟨kvs, k, e, ey, l⟩ | ⟨kvs, k, b, e, ey, eb, l⟩
 ·subst ey
  obtain ⟨z, hd, vs, rel, dd⟩ := Zjy I.hok e
  refine call_meetsIn PySem.F.slot_dict_get dd.typeIs PySem.F.entry_dict_get (PySem.F.args_dict_get_2 _ _) (meets_dict_get (Zby X.prog X.w) a (ZhW ry) hd) ⟨_, dd.mapOf, h _ _ (I.tok _) ?_⟩
  rw [l]
  exact (rel.val k).getD rfl
 ·subst ey
  cases (show u = Value.ref b from ry)
  obtain ⟨z, hd, xs, rel, dd⟩ := ZkW I.hok e
  refine call_meetsIn PySem.F.slot_dict_get dd.typeIs PySem.F.entry_dict_get (PySem.F.args_dict_get_2 _ _) (meetsH_dict_get (tupleKind (Zby X.prog X.w)) a b hd) ⟨tupleKind_room_in1 hu, k, xs, Zji I.hok eb, dd, h _ _ (I.tok _) ?_⟩
  rw [l]
  exact (rel.val k).getD rfl
end
noncomputable def Zk6 (td ty : TE) : TE := fun σ H Q => td σ H fun x H1 => ∃ a, x = .ref a /\ IsD H1 a /\ ty σ H1 fun y H2 => ∃ o, DGet H2 a y o /\ Q (o.getD .non) H2
section
variable {X : Cx} {o e f : Expr} {apos cpos : Pos} {td ty tx : TE}
theorem Zkv (hu : X.A.units + 1 < cLine) (ho : PE X o td) (he : PE X e ty) (m : M1 X o "get" apos e cpos) : PE X (.Call (.Attribute o "get" apos) [e] [] cpos) (Zk6 td ty) := by
 intro pins s σ H Q I h
 refine wpAny_Call_method m.base m.few m.line PySem.F.plainAttrs_dict PySem.F.slot_dict_get PySem.F.type_dict_get (thn (ho pins s σ H _ I h) fun u s1 ⟨x, H1, I1, rx, a, ex, d, q1⟩ => ?_)
 subst ex
 obtain rfl : u = Value.ref a := rx
 obtain ⟨t1, t2, _⟩ := isD_at I1 d
 refine ⟨t1, t2, ?_⟩
 rw [m.trees]
 refine Calls.callWith_builtin rfl (Calls.evalArgs_plain (Calls.spliced_cons (thn (he pins s1 σ H1 _ I1 q1) fun iv s2 ⟨y, H2, I2, ry, ov, g, q2⟩ => Calls.spliced_nil ?_)))
 exact d_get1 hu I2 g ry fun w' s3 I3 rw' => ⟨_, H2, I3, rw', q2⟩
end
section
variable {X : Cx} {pins : List (Addr × Obj)} {σ : St} {H : Hp} {s : Shared} {a : Addr} {kvs : List (Key × V)} {A : Around} {E : Value -> Shared -> Prop}
end
section
variable {X : Cx} {pins : List (Addr × Obj)} {σ : St} {H : Hp} {s : Shared} {a : Addr} {y : V} {u : Value} {A : Around} {E : Value -> Shared -> Prop}
end
end L2
namespace Att
open PySem PySem.W PySem.Calls PyProof.Rows
theorem ZeO {P : Params} {h : Heap} : ∀ (ns : List Int) (vs : List Value), WellAll P h vs (ns.map WData.int) -> IntsAre vs ns := by
  intro ns
  induction ns with
  | nil =>
    intro vs w
    rw [List.map_nil] at w
    cases w
    exact .nil
  | cons n ns ih =>
    intro vs w
    rw [List.map_cons] at w
    cases w with
    | cons a b =>
      cases a
      exact .cons _ _ (ih _ b)
theorem Ziv {l : OpenLaw} {n : Nat} (hn : l.most = some n) {P : Params} {h : Heap} {args : List WData} {vals : List Value}
    (hpre : l.row.toRowW.claim.pre args = true) (hwl : WellAll P h vals args) :
    ∃ a vs ns, vals = [Value.ref a] /\ args = [WData.list (ns.map WData.int)] /\ h.get? a = some { cls := .type "list", data := .seq vs.toArray } /\ IntsAre vs ns /\ ns.length <= n := by
  have hsh : WShape.hasAll [] args [.list .int] = true := (pre_splitW hpre).1
  have hc : l.pre.holds [] { args := args } = true := (pre_splitW hpre).2
  obtain ⟨d, r, rfl, h1, h2⟩ := hasAllW_cons hsh
  obtain rfl := hasAllW_nil h2
  obtain ⟨xs, rfl, h3⟩ := hasW_list h1
  obtain ⟨ns, rfl⟩ := items_int h3
  have hlen : ns.length <= n := by
    unfold OpenLaw.pre at hc
    have h4 : (WTm.not (.lt (.lit (.int (n : Int))) (.len (.arg 0)))).holds [] { args := [.list (ns.map .int)] } = true := by
      have h4 := (holds_andW hc).1
      rw [hn] at h4
      exact h4
    have h5 := condW_of h4 (w_not (w_lt w_lit (w_len_list (w_arg rfl))))
    rw [List.length_map] at h5
    refine Nat.le_of_not_lt fun q => ?_
    have q' : (n : Int) < ((ns.length : Nat) : Int) := by lia
    first
      | (rw [decide_eq_true q'] at h5; exact absurd h5 (by decide))
      | (simp at h5; lia)
  cases hwl with
  | cons w1 w2 =>
    cases w2
    cases w1 with
    | list ho hall => exact ⟨_, _, ns, rfl, rfl, ho, ZeO ns _ hall, hlen⟩
theorem ZiW (l : OpenLaw) (args : List WData) : l.row.toRowW.claim.post args (.bool true) args = true :=
 postW_of (r := l.row.toRowW) (X := (true == true))
  (show WShape.has [] (.bool true) .bool = true by first | rfl | decide | simp [WShape.has, WShape.arms, WShape.armsAll])
  (show (WTm.eq .res (.lit (.bool true))).value [] { args := args, res := some (.bool true), after := args } = some (.bool (true == true)) from w_eq_bool (w_res rfl) w_lit) rfl
theorem attach_call {l : OpenLaw} {n : Nat} {q : Program} {loose : List Str} {XP : (Str -> Option Value) -> Heap -> Prop} {YP : World -> Heap -> Prop} {d : DefRec}
  (hn : l.most = some n) (hdf : d.params.defaults = [])
  (call : ∀ (w : World) (s₀ s₁ : Shared) (mg mb : Str -> Option Value) (fa : Addr) (o : Obj) (pm cd doc : Value) (a : Addr) (vs : List Value) (ns : List Int),
   Ground q loose [] XP w s₀ mg mb s₁.heap -> YP w s₁.heap ->
   s₁.heap.get? fa = some o -> o.data = .func (docDef d.name d.params d.body d.scope pm cd doc) -> s₁.heap.CodeRec cd d.name -> mg d.name = some (.ref fa) ->
   s₁.heap.get? a = some { cls := .type "list", data := .seq vs.toArray } -> IntsAre vs ns -> ns.length <= n -> s₁.gens = #[] ->
   codeAny (model l.prog w) callerA (.call (.ref fa) ⟨[.ref a], []⟩) (fun r s' => r = .ok (.ret (.bool true)) /\ OldK s₁.heap s'.heap /\ s'.os = s₁.os /\ AllBare s'.gens) s₁) :
  WalkO q loose XP YP l.row.toRowW d [] (fun f vs => PySem.call f vs) := by
 intro w s₀ s₁ mg mb G Y fa o pm cd doc dV kV ho hd hcd hD hmg hg args vals as hpre hlay hrd hwl hlo
 obtain rfl : dV = .none := Dflts.none hD hdf
 obtain rfl : kV = .none := Dflts.noKw hD
 obtain ⟨a, vs, ns, rfl, rfl, hobj, hints, hlen⟩ := Ziv hn hpre hwl
 refine enter_call (codeAny_mono (call w s₀ s₁ mg mb fa o pm cd doc a vs ns G Y ho (fd_plain hd) hcd hmg hobj hints hlen hg) fun r s' hq => ?_)
 obtain ⟨rfl, h2, h3, h4⟩ := hq
 exact ⟨.inl ⟨.bool true, .bool true, [], rfl, fun _ => rfl, .bool true, ZiW l _, fun _ => ⟨List.Pairwise.nil, fun _ hm => (nomatch hm)⟩⟩, h2, h3, h4⟩
section
variable {prog : Program} {w : World} {A : Around} {E : Value -> Shared -> Prop} {s : Shared} {K : Frag}
noncomputable def ledger (h : Heap) (L d : Addr) : List (Addr × Obj) := (List.range h.objs.size).filterMap fun a => if a = L \/ a = d then none else (h.get? a).map fun o => (a, o)
end
end Att
namespace L2
open PySem PySem.Spec PyProof.Rows
theorem Zf1 : ∀ {vs : List Value} {ns : List Int}, IntsAre vs ns -> Vals (ns.map V.int) vs
 | _, _, .nil => .nil
 | _, _, .cons n t h => .cons ⟨t, rfl⟩ (Zf1 h)
noncomputable def Only (H : Hp) : Prop := ∀ b, H b = none \/ ∃ o xs, H b = some (.frz o (.lst xs))
theorem ZkO {P : Program} {w : World} {K : PySem.W.Frag} {mg mb : Str -> Option Value} {CX : CXT} {k : Nat} {fa a : Addr} {fd : FuncData} {x : Str} {sp : Sp} {s₁ : Shared} {vs : List Value} {ns : List Int}
    (KX : K.In s₁.heap) (hns : s₁.heap.Ns mainGlobals mg) (hb : s₁.heap.Ns builtinsNs mb) (hbb : ∀ x : Str, x ≠ "__name__" -> mb x = bootBuiltins x) (hlim : s₁.heap.NoLimit) (hg : s₁.gens = #[])
    (ha : s₁.heap.get? a = some { cls := .type "list", data := .seq vs.toArray }) (hi : IntsAre vs ns) (hl : ns.length <= sizeLine) (hr : Room k callerA)
    (F : ∀ base : Heap, K.In base -> base.Ns mainGlobals mg -> FnOk P w K mg base CX k fa fd [x] sp) (hbind : ∀ (s : Shared) (u : Value), BindsTo s fd ⟨[u], []⟩ [(x, u)])
    (hsp : ∀ H : Hp, Only H -> SqL K H a (ns.map V.int) -> sp [.ref a] H (fun v _ => v = .bl true) fun _ _ _ => False)
    (hCX : ∀ H e s', CX [] H s₁ (fun _ _ _ => False) e s' -> False) :
    codeAny (model P w) callerA (.call (.ref fa) ⟨[.ref a], []⟩) (fun r s' => r = .ok (.ret (.bool true)) /\ OldK s₁.heap s'.heap /\ s'.os = s₁.os /\ AllBare s'.gens) s₁ := by
  have rv := Zf1 hi
  have lenV := hi.length
  have core : ∀ H : Hp, Only H -> SqL K H a (ns.map V.int) -> HOk P w H s₁.heap -> (∀ b, H b ≠ none -> b = a) -> (H a ≠ none -> K.lookup a = none) ->
      codeAny (model P w) callerA (.call (.ref fa) ⟨[.ref a], []⟩) (fun r s' => r = .ok (.ret (.bool true)) /\ OldK s₁.heap s'.heap /\ s'.os = s₁.os /\ AllBare s'.gens) s₁ := by
    intro H hO hS hok hA hK
    have base_of : ∀ {b : Addr} {o : Obj}, s₁.heap.get? b = some o -> H b = none -> (hidT s₁.heap H).get? b = some o := fun e n => ZkQ e n
    have noA : ∀ {b : Addr} {o : Obj} {es : Array DictEntry} {ep : Nat}, s₁.heap.get? b = some o -> o.data = .dict es ep -> H b = none := fun {b o es ep} e d => by
      cases q : H b with
      | none => rfl
      | some u =>
        have e' : b = a := hA b (by rw [q]; simp)
        subst e'
        rw [ha] at e; cases e
        have d' : Data.seq vs.toArray _ = Data.dict es ep := d
        cases d'
    have nsK : ∀ {b : Addr} {m : Str -> Option Value}, s₁.heap.Ns b m -> (hidT s₁.heap H).Ns b m := fun {b m} ⟨o, es, ep, e, d, r⟩ => ⟨o, es, ep, base_of e (noA e d), d, r⟩
    have hKb : K.In (hidT s₁.heap H) := fun b o e => base_of (KX b o e) (by
      cases q : H b with
      | none => rfl
      | some u =>
        have e' : b = a := hA b (by rw [q]; simp)
        subst e'
        rw [hK (by rw [q]; simp)] at e; cases e)
    have hM : Mod K mg (hidT s₁.heap H) := ⟨hKb, nsK hns, ⟨mb, nsK hb, hbb⟩, let ⟨mc, h1, h2⟩ := hlim; ⟨mc, nsK h1, h2⟩⟩
    have e0 : Env0 P w K mg (hidT s₁.heap H) callerA [] s₁ H := ⟨rfl, hM, fun b o e => Zmv e, Nat.le_of_eq (Zjs _ _), trivial, fun b hb => absurd (show b ∈ ([] : List Addr) from hb) (by simp), hok, .of_eq hg⟩
    refine codeAny_mono ((F _ hKb (nsK hns)).run callerA [] s₁ H ⟨[.ref a], []⟩ [.ref a] [.ref a] _ _ hr e0 (hbind s₁ (.ref a)) (.cons rfl .nil) (hsp H hO hS)) fun r s' h => ?_
    cases r with
    | error e => exact (hCX H e s' h).elim
    | ok fl =>
      cases fl with
      | next => exact False.elim h
      | brk => exact False.elim h
      | cont => exact False.elim h
      | ret u =>
        obtain ⟨v, H', os, bare, un, hok', r', q⟩ := h
        have q' : v = .bl true := q
        subst q'
        obtain rfl : u = Value.bool true := r'
        refine ⟨rfl, OldK.of_keep fun b o e => ?_, os, bare⟩
        cases q : H b with
        | none => exact un.keep b o e q (by intro z; exact absurd (show b ∈ ([] : List Addr) from z) (by simp)) (by simp)
        | some u =>
          rcases hO b with z | ⟨ob, xs, z⟩
          · rw [q] at z; cases z
          · have z2 := un.frzs b ob _ z
            obtain ⟨e1, _⟩ := hok b _ z
            obtain ⟨e2, _⟩ := hok' b _ z2
            rw [e] at e1; cases e1
            exact e2
  cases hk : K.lookup a with
  | some o =>
    have e := KX a o hk
    rw [ha] at e
    cases e
    refine core (fun _ => none) (fun _ => .inl rfl) (.inr ⟨_, vs.toArray, _, hk, rfl, rfl, rfl, by rw [List.size_toArray, lenV]; exact hl, by simpa using rv⟩) (fun b u z => by have z' : (none : Option HO) = some u := z; cases z') (fun b z => absurd rfl z) fun z => absurd rfl z
  | none =>
    refine core (fun b => if b = a then some (.frz { cls := .type "list", data := .seq vs.toArray } (.lst (ns.map V.int))) else none) (fun b => ?_) (.inl (.inr ⟨{ cls := .type "list", data := .seq vs.toArray }, if_pos rfl⟩)) (fun b u z => ?_) (fun b z => ?_) fun _ => hk
    · by_cases hb : b = a
      · exact .inr ⟨_, _, if_pos hb⟩
      · exact .inl (if_neg hb)
    · by_cases hb : b = a
      · have z' := (if_pos hb).symm.trans z
        cases z'
        subst hb
        exact ⟨ha, by rw [List.length_map]; exact hl, vs, _, rv, ha⟩
      · have z' := (if_neg hb).symm.trans z
        cases z'
    · by_cases hb : b = a
      · exact hb
      · exact absurd (if_neg hb) z
end L2
namespace L2
open PySem PySem.Spec PyProof.Rows
noncomputable abbrev KOf {K : PySem.W.Frag} {h : Heap} (_ : K.In h) : PySem.W.Frag := K
theorem Zh7 {l : PySem.W.OpenLaw} {n k : Nat} {q : Program} {loose : List Str} {XP : (Str -> Option Value) -> Heap -> Prop} {YP : World -> Heap -> Prop} {d : DefRec} {K : Params -> PySem.W.Frag} {CX : World -> CXT} {sp : World -> Sp} {x : Str}
  (hn : l.most = some n) (hn2 : n <= sizeLine) (hdf : d.params.defaults = []) (hr : Room k callerA)
  (hY : ∀ (w : World) (h : Heap), YP w h -> (K w.params).In h)
  (F : ∀ (w : World) (mg : Str -> Option Value) (fa : Addr) (h : Heap), (K w.params).In h -> h.Ns mainGlobals mg -> mg d.name = some (.ref fa) ->
   ∃ fd : FuncData, (∀ (s : Shared) (u : Value), BindsTo s fd ⟨[u], []⟩ [(x, u)]) /\
    ∀ base : Heap, (K w.params).In base -> base.Ns mainGlobals mg -> FnOk l.prog w (K w.params) mg base (CX w) k fa fd [x] (sp w))
  (hsp : ∀ (w : World) (H : Hp) (a : Addr) (ns : List Int), ns.length <= n -> Only H -> SqL (K w.params) H a (ns.map V.int) -> sp w [.ref a] H (fun v _ => v = .bl true) fun _ _ _ => False)
  (hCX : ∀ (w : World) (H : Hp) (s : Shared) (e : Value) (s' : Shared), CX w [] H s (fun _ _ _ => False) e s' -> False) :
  PySem.W.WalkO q loose XP YP l.row.toRowW d [] (fun f vs => PySem.call f vs) := by
 refine Att.attach_call hn hdf fun w s₀ s₁ mg mb fa o pm cd doc a vs ns G Y ho hd hcd hmg hobj hints hlen hg => ?_
 have KX := hY w _ Y
 obtain ⟨fd, hb, hF⟩ := F w mg fa _ KX G.T.g hmg
 exact ZkO KX G.T.g G.T.b G.T.builtins G.T.nolimit hg hobj hints (Nat.le_trans hlen hn2) hr hF hb (fun H hO hS => hsp w H a ns hlen hO hS) fun H e s' => hCX w H s₁ e s'
end L2
/- THE LAST THEOREM (shape; LID, My.* are yours):
   My.Adr: a structure of the addresses that your layer names (classes, functions); My.Txt K t: a structure (Prop) of the equations over K;
   My.txt_mk : {K} {implicit addresses ..} (e1 : nsIn K mainGlobals "law" = some (some (.ref f))) (e2 : K.lookup f = some ⟨oc, od, .func (fnOf "law" "law" params body scope dV kV doc pm an cdv ct), sl⟩) (e3 : codeIn K cdv "law" = true) .. : ∃ t, My.Txt K t
set_option maxRecDepth 100000 in
set_option maxHeartbeats 0 in
theorem PySem.Challenge.cw_LID_holds : PySem.Challenge.rw_LID.Holds := by
 w_on; o_law; k_head; (case hw => w_witness2)
 k_fill
 refine L2.Zh7 (l := PySem.Challenge.rw_LID) (n := 63) (k := 40) (x := "script") (CX := fun w => ..) (sp := fun _ => My.sp_law) rfl (by decide) rfl ⟨rfl, by decide, by decide⟩ (fun w h Y => PySem.W.kIn_of Y) ?F ?S ?C
 case F =>
  intro w mg fa h KX G hmg
  have T : ∃ t, My.Txt (L2.KOf KX) t := by
   dsimp only [L2.KOf]                          -- K must stand as «<heap const> w.params» for k_is
   refine' My.txt_mk ?e1 ?e2 ?e3 ..
   (case e1 => PySem.W.k_is)                    -- in the order: a name -> its address -> its object -> its parts
   (case e2 => PySem.W.k_is)
   ..
  obtain ⟨t, T⟩ := T
  have e0 := hmg.symm.trans (PySem.W.mg_of KX G T.law)
  cases e0                                       -- fa is the law's own address
  exact ⟨_, fun s u => .of_eq rfl, fun base kb nb => My.Zjh T kb nb⟩     -- if «.of_eq rfl» comes too early: refine' ⟨_, ?b, fun base kb nb => My.Zjh T kb nb⟩; exact fun s u => .of_eq rfl
 case S => exact fun w H a ns hl hO hS => ..
 case C => exact ..
(the tactic k_is has no namespace: write k_is) -/
namespace L2
open PySem PySem.Spec PyProof.Rows
noncomputable def ZaI (s : Stmt) : Arguments := match s with
 | .FunctionDef _ a _ _ _ _ _ _ _ _ => a
 | _ => { posonlyargs := [], args := [], vararg := none, kwonlyargs := [], kw_defaults := [], kwarg := none, defaults := [] }
noncomputable def Zay (s : Stmt) : List Stmt := match s with
 | .FunctionDef _ _ b _ _ _ _ _ _ _ => b
 | _ => []
noncomputable def Zag (s : Stmt) : Scope := match s with
 | .FunctionDef _ _ _ _ _ _ sc _ _ _ => sc
 | _ => { kind := .function, names := [], isGenerator := false, isCoroutine := false }
noncomputable abbrev CX0 : CXT := fun _ _ _ _ _ _ => False
noncomputable abbrev E0 : XK := fun _ _ _ => False
theorem Zmr {X : Cx} : Ze1 CX0 X E0 := fun _ _ _ _ _ _ _ h => h.elim
structure Fun (K : PySem.W.Frag) (x qual : Str) (st : Stmt) (f : Addr) (fd : FuncData) : Prop where
 ex : ∃ (oc : Value) (od : Option Addr) (kV doc pm : Value) (an : Option Addr) (cdv ct : Value) (osl : Array (Option Value)),
  fd = PySem.W.fnOf x qual (ZaI st) (Zay st) (Zag st) .none kV doc pm an cdv ct /\ K.lookup f = some ⟨oc, od, .func fd, osl⟩ /\ PySem.W.codeIn K cdv qual = true
 kp : PySem.W.keepIn K (.ref f) = true
section
variable {P : Program} {w : World} {K : PySem.W.Frag} {mg : Str -> Option Value} {base : Heap}
theorem Fun.ok {x qual : Str} {st : Stmt} {f : Addr} {fd : FuncData} {N ps : List Str} {k : Nat} {sp : Sp} (F : Fun K x qual st f fd) (S : FnScope N ps (Zag st)) (len : ∀ vs H Q E, sp vs H Q E -> vs.length = ps.length)
  (hbody : ∀ (cdv : Value) (A : Around) (outer : List Env) (s : Shared) (H : Hp) (vs : List V) (Q : VK) (E : XK), Room k (A.deeper (envOfC qual (Zag st) s.heap.objs.size f cdv)) -> sp vs H Q E ->
   ∃ t, PSs (cxOf CX0 P w K mg base N qual (Zag st) f cdv A outer s H E).nox (Zay st) t /\ t { nx := fun _ H' => Q .non H', rt := Q } (Zc1 N vs) H) : FnOk P w K mg base CX0 (k + 1) f fd ps sp := by
 obtain ⟨oc, od, kV, doc, pm, an, cdv, ct, osl, rfl, lk, hcd⟩ := F.ex
 refine fn_of lk hcd S len fun A outer s H vs Q E hr hsp => ?_
 obtain ⟨t, h, q⟩ := hbody cdv A outer s H vs Q E hr hsp
 exact ⟨t, h.nox, q⟩
theorem Fun.binds {x qual : Str} {st : Stmt} {f : Addr} {fd : FuncData} {ps : List Str} (F : Fun K x qual st f fd)
  (h : ∀ (kV doc pm : Value) (an : Option Addr) (cdv ct : Value) (us : List Value), us.length = ps.length -> bindArgs (PySem.W.fnOf x qual (ZaI st) (Zay st) (Zag st) .none kV doc pm an cdv ct) ⟨us, []⟩ = pure (ps.zip us)) : Binds K fd ps [] := by
 obtain ⟨oc, od, kV, doc, pm, an, cdv, ct, osl, rfl, lk, hcd⟩ := F.ex
 exact .all (h kV doc pm an cdv ct)
theorem Zbm {x qual : Str} {st : Stmt} {f : Addr} {oc : Value} {od an : Option Addr} {osl : Array (Option Value)} {kV doc pm cdv ct : Value} (l : K.lookup f = some ⟨oc, od, .func (PySem.W.fnOf x qual (ZaI st) (Zay st) (Zag st) .none kV doc pm an cdv ct), osl⟩)
  (c : PySem.W.codeIn K cdv qual = true) (k : PySem.W.keepIn K (.ref f) = true) : Fun K x qual st f (PySem.W.fnOf x qual (ZaI st) (Zay st) (Zag st) .none kV doc pm an cdv ct) := ⟨⟨oc, od, kV, doc, pm, an, cdv, ct, osl, rfl, l, c⟩, k⟩
end
theorem ZmG {A : Around} {k : Nat} (hr : Room k A) : A.units + 1 < cLine := Nat.lt_of_le_of_lt (Nat.add_le_add_left (by decide : 1 <= 64) _) hr.units
section
variable {X : Cx}
theorem pv (i : Nat) {x : Str} {pos : Pos} (hN : X.N[i]? = some x := by rfl) (hv : Vis X.env.scope x := by first | exact Or.inl rfl | exact Or.inr (Or.inl rfl) | exact Or.inr (Or.inr rfl)) (hd : (x == ("__debug__" : Str)) = false := by decide)
  (hcd : (x == ("__classdict__" : Str)) = false := by decide) : PE X (.Name x pos) (tVar i) := pe_var hN hv hd hcd
end
theorem iteF {A B : Prop} (h : B) : if false = true then A else B := by
 rw [if_neg Bool.false_ne_true]
 exact h
theorem iteT {A B : Prop} (h : A) : if true = true then A else B := by
 rw [if_pos rfl]
 exact h
theorem iteNS {c A B : Prop} [Decidable c] (hc : c) (h : B) : if (!decide c) = true then A else B := by
 rw [decide_eq_true hc]
 exact iteF h
noncomputable def Same (H H' : Hp) : Prop := ∀ b o, H b = some o -> H' b = some o
theorem Same.refl (H : Hp) : Same H H := fun _ _ h => h
theorem Same.trans {H H1 H2 : Hp} (a : Same H H1) (b : Same H1 H2) : Same H H2 := fun c o h => b c o (a c o h)
theorem Same.free {H H' : Hp} (e : Same H H') {l : Addr} (h : H' l = Option.none) : H l = Option.none := by
  cases q : H l with
  | none => rfl
  | some o =>
    rw [e l o q] at h
    cases h
theorem Same.seq {K : PySem.W.Frag} {H H' : Hp} {a : Addr} {xs : List V} (e : Same H H') (h : SqL K H a xs) : SqL K H' a xs := by
 rcases h with (h | ⟨o, h⟩) | h
 ·exact .inl (.inl (e _ _ h))
 ·exact .inl (.inr ⟨o, e _ _ h⟩)
 ·exact .inr h
section
variable {κ : Type} [DecidableEq κ]
theorem Zlt {kvs : List (κ × V)} {k : κ} {v : V} (h : valV kvs k = some v) : k ∈ kvs.map (·.1) := by
 have q : (kvs.any fun kv => decide (kv.1 = k)) = true := by
  rw [Zfp, h]
  all_goals rfl
 obtain ⟨p, hp, e⟩ := List.any_eq_true.mp q
 exact List.mem_map.mpr ⟨p, hp, of_decide_eq_true e⟩
end
end L2
end
section
namespace L2
theorem opq {p : Prop} (h : let g : Prop := p; g) : p := h
open PySem PySem.Spec PyProof.Rows
theorem ZdW (env : Env) : ∀ (names : List (Str × NameKind)) (acc : List (Str × Addr)),
    (∀ y ∈ names, y.2 = .free -> ∃ c, env.cells.lookup y.1 = some c) ->
    ∃ cl : List (Str × Addr), (forIn names acc fun (x : Str × NameKind) (r : List (Str × Addr)) => (match x with
        | (name, kind) => if (kind == NameKind.free) = true then do
            let a <- cellOf env name
            pure (ForInStep.yield ((name, a) :: r))
          else pure (ForInStep.yield r) : Sem (ForInStep (List (Str × Addr))))) = (pure cl : Sem (List (Str × Addr))) /\
      (∀ x c, cl.lookup x = some c -> acc.lookup x = some c \/ env.cells.lookup x = some c) /\
      (∀ x, (acc.lookup x).isSome = true \/ (x, NameKind.free) ∈ names -> (cl.lookup x).isSome = true)
  | [], acc, _ => ⟨acc, by simp, fun x c h => .inl h, fun x h => h.elim id fun z => nomatch z⟩
  | (n, k) :: r, acc, h => by
    by_cases hk : k = .free
    · subst hk
      obtain ⟨c, hc⟩ := h (n, .free) List.mem_cons_self rfl
      obtain ⟨cl, e, h1, h2⟩ := ZdW env r ((n, c) :: acc) fun y hy => h y (List.mem_cons_of_mem _ hy)
      refine ⟨cl, ?_, fun x c' z => ?_, fun x z => ?_⟩
      · rw [List.forIn_cons]
        have q : cellOf env n = pure c := by unfold cellOf; rw [hc]
        simp only [q, beq_self_eq_true, if_true, pure_bind]
        exact e
      · rcases h1 x c' z with z | z
        · rw [List.lookup_cons] at z
          by_cases hx : x = n
          · subst hx
            simp at z
            subst z
            exact .inr hc
          · have hb : (x == n) = false := by simpa using hx
            rw [hb] at z
            exact .inl z
        · exact .inr z
      · refine h2 x ?_
        rw [List.lookup_cons]
        by_cases hx : x = n
        · subst hx
          left
          simp
        · have hb : (x == n) = false := by simpa using hx
          rw [hb]
          rcases z with z | z
          · exact .inl z
          · rcases List.mem_cons.mp z with z | z
            · cases z
              exact absurd rfl hx
            · exact .inr z
    · obtain ⟨cl, e, h1, h2⟩ := ZdW env r acc fun y hy => h y (List.mem_cons_of_mem _ hy)
      refine ⟨cl, ?_, h1, fun x z => h2 x ?_⟩
      · rw [List.forIn_cons]
        have hb : (k == NameKind.free) = false := by simpa using hk
        simp only [hb, Bool.false_eq_true, if_false, pure_bind]
        exact e
      · rcases z with z | z
        · exact .inl z
        · rcases List.mem_cons.mp z with z | z
          · cases z
            exact absurd rfl hk
          · exact .inr z
theorem ZdV {scope : Scope} {env : Env} (h : ∀ y ∈ scope.names, y.2 = .free -> ∃ c, env.cells.lookup y.1 = some c) :
  ∃ cl, closureFor scope env = pure cl /\ (∀ x c, cl.lookup x = some c -> env.cells.lookup x = some c) /\ ∀ x, (x, NameKind.free) ∈ scope.names -> ∃ c, cl.lookup x = some c := by
 obtain ⟨cl, e, h1, h2⟩ := ZdW env scope.names [] h
 refine ⟨cl, ?_, fun x c z => (h1 x c z).elim (fun q => by simp at q) id, fun x z => Option.isSome_iff_exists.mp (h2 x (.inr z))⟩
 unfold closureFor
 dsimp only
 rw [e]
 rfl
structure BkScope (N : List Str) (sc osc : Scope) (LN FN : List Str) (fr : List Nat) : Prop where
 kind : sc.kind = .function
 nocell : ∀ y ∈ sc.names, y.2 ≠ .cell
 names : ∀ x ∈ sc.names, x.2 = .local -> sc.names.lookup x.1 = some .local
 free : ∀ y ∈ sc.names, y.2 = .free -> osc.names.lookup y.1 = some .cell \/ osc.names.lookup y.1 = some .free
 fnk : ∀ x ∈ FN, osc.names.lookup x = some .cell \/ osc.names.lookup x = some .free
 fnf : ∀ x ∈ FN, sc.names.lookup x = some .free
 at' : FN.map some = fr.map fun j => N[j]?
theorem BkScope.place {N : List Str} {sc osc : Scope} {LN FN : List Str} {fr : List Nat} (S : BkScope N sc osc LN FN fr) {k : Nat} {x : Str} (e : FN[k]? = some x) : ∃ j : Nat, fr[k]? = some j /\ N[j]? = some x := by
  have h := congrArg (fun l => l[k]?) S.at'
  simp only [List.getElem?_map, e, Option.map_some] at h
  cases q : fr[k]? with
  | none => rw [q] at h; cases h
  | some j =>
    rw [q] at h
    exact ⟨j, rfl, (Option.some.inj h).symm⟩
theorem BkScope.frl {N : List Str} {sc osc : Scope} {LN FN : List Str} {fr : List Nat} (S : BkScope N sc osc LN FN fr) : fr.length = FN.length := by
 have h := congrArg List.length S.at'
 simpa using h.symm
noncomputable def Zdt (LN : List Str) (fr : List Nat) (σ : St) : St := List.replicate LN.length none ++ fr.map fun j => (σ[j]?).getD none
noncomputable def bkCx (X : Cx) (LN FN : List Str) (sc : Scope) (cl : List (Str × Addr)) (C : Addr) (fp : List Addr) (pins : List (Addr × Obj)) (s : Shared) (H : Hp) : Cx :=
 { X with N := LN ++ FN, s₀ := s, H₀ := H, env := compEnvC sc cl C X.env, outer := X.stack, ex := fp, fn := fun _ => false, pn := X.pn ++ pins, xe := fun _ _ => False }
theorem Zcz {env : Env} : ∀ {names : List (Str × NameKind)} {x : Str} {k : NameKind},
    (names.map fun (n, k) => if (k == NameKind.free && env.scope.kind == .function && env.kindOf n == some .cell) then (n, NameKind.cell) else (n, k)).lookup x = some k ->
    names.lookup x = some k \/ (names.lookup x = some .free /\ k = .cell)
  | [], _, _, h => by simp at h
  | (n, j) :: r, x, k, h => by
    have ih := @Zcz env r x k
    have h : List.lookup x ((if (j == NameKind.free && env.scope.kind == .function && env.kindOf n == some .cell) = true then (n, NameKind.cell) else (n, j)) :: _) = some k := h
    rw [List.lookup_cons]
    by_cases hc : (j == NameKind.free && env.scope.kind == .function && env.kindOf n == some .cell) = true
    · rw [if_pos hc, List.lookup_cons] at h
      cases hx : x == n with
      | true =>
        rw [hx] at h
        simp only [Bool.and_eq_true, beq_iff_eq] at hc
        have hk : NameKind.cell = k := by simpa using h
        exact .inr ⟨by simp [hc.1.1], hk.symm⟩
      | false =>
        rw [hx] at h
        exact ih h
    · rw [if_neg hc, List.lookup_cons] at h
      cases hx : x == n with
      | true =>
        rw [hx] at h
        exact .inl h
      | false =>
        rw [hx] at h
        exact ih h
theorem Zk1 {X : Cx} {pins : List (Addr × Obj)} {σ : St} {H : Hp} {s : Shared} {LN FN : List Str} {fr : List Nat} {sc : Scope} {cl : List (Str × Addr)} {C : Addr} {fp : List Addr} {h' : Heap} {tk : Nat} {m : Str -> Option Value}
    (I : Inv X pins σ H s) (S : BkScope X.N sc X.env.scope LN FN fr) (hf : ∀ b ∈ fp, FpOk X pins H b) (hfs : ∀ b ∈ fp, ∃ o, s.heap.get? b = some o)
    (h1 : ∀ x c, cl.lookup x = some c -> X.env.cells.lookup x = some c) (h2 : ∀ x, (x, NameKind.free) ∈ sc.names -> ∃ c, cl.lookup x = some c)
    (hC : s.heap.objs.size <= C) (hk : ∀ b o, s.heap.get? b = some o -> h'.get? b = some o) (hn : h'.Ns C m) :
    Inv (bkCx X LN FN sc cl C fp pins s H) [] (Zdt LN fr σ) H { s with heap := h', toks := tk } := by
  have hsub : ∀ b, b ∉ X.fs -> b ≠ X.env.locals -> b ∉ frs X.stack := fun b n1 n2 z => (List.mem_cons.mp (I.stkSub b z)).elim n2 n1
  have hlk : ∀ x k, (relabel sc X.env).names.lookup x = some k -> (k = .cell \/ k = .free) -> sc.names.lookup x = some .free := fun x k e hk => by
    rcases Zcz e with q | ⟨q, _⟩
    · rcases hk with rfl | rfl
      · exact absurd rfl (S.nocell _ (PySem.mem_of_lookup q))
      · exact q
    · exact q
  refine ⟨⟨I.ok.mod, ?_, I.ok.glob, I.ok.blt, hC, fun x y c e1 e2 => I.ok.inj x y c (h1 x c e1) (h1 y c e2), fun x hx => ?_, (fun x c z => absurd z (by intro z; cases z)), I.ok.hd, I.ok.frames, .inl rfl, fun b hb => ⟨?_, fun x c e z => ?_⟩, I.bs, Nat.le_trans I.ok.bsz I.sz, fun b o e hb => ?_, fun b hb => ?_, I.stack, I.stkFree⟩,
    rfl, I.bare, Un.kept hk, ⟨m, hn, fun i x v e1 e2 e3 => ?_⟩, fun x c e => ?_, ?_, fun x c e => I.freeC x c (h1 x c e), fun p hp => ?_, I.hok.kept hk, ?_⟩
  · exact S.kind
  · have hx : (relabel sc X.env).names.lookup x = some .cell \/ (relabel sc X.env).names.lookup x = some .free := hx
    rcases hx with hx | hx
    · exact h2 x (PySem.mem_of_lookup (hlk x _ hx (.inl rfl)))
    · exact h2 x (PySem.mem_of_lookup (hlk x _ hx (.inr rfl)))
  · obtain ⟨o, e⟩ := hfs b hb
    exact Nat.ne_of_lt (Nat.lt_of_lt_of_le (Heap.lt_size e) hC)
  · exact (hf b hb).2.2.2.2.1 x c (h1 x c e) z
  · obtain ⟨_, _, _, h3, _⟩ := hf b hb
    rcases h3 with z | z
    · exact I.ok.noex b o e z
    · exact absurd (Nat.lt_of_lt_of_le (Heap.lt_size (I.ok.bs b o e).1) z) (Nat.lt_irrefl _)
  · obtain ⟨_, n1, n2, _⟩ := hf b hb
    exact hsub b n2 n1
  · -- the free names' values
    have hi : LN.length <= i := by
      refine Nat.le_of_not_lt fun hlt => ?_
      unfold Zdt at e2
      rw [List.getElem?_append_left (by simpa using hlt), List.getElem?_replicate] at e2
      split at e2 <;> cases e2
    have e1 : FN[i - LN.length]? = some x := by
      have e1 : (LN ++ FN)[i]? = some x := e1
      rwa [List.getElem?_append_right hi] at e1
    obtain ⟨j, ej, hj⟩ := S.place e1
    have e2 : (σ[j]?).getD none = some v := by
      unfold Zdt at e2
      rw [List.getElem?_append_right (by simpa using hi), List.length_replicate, List.getElem?_map, ej] at e2
      simpa using e2
    have e2 : σ[j]? = some (some v) := by
      cases q : σ[j]? with
      | none => rw [q] at e2; cases e2
      | some z =>
        rw [q] at e2
        exact congrArg some e2
    have hkx := S.fnk x (List.mem_of_getElem? e1)
    obtain ⟨m0, hm0, hl⟩ := I.loc
    have hv : Vis X.env.scope x := hkx.elim (fun z => .inr (.inl z)) fun z => .inr (.inr z)
    obtain ⟨u, r, l⟩ := hl j x v hj e2 hv
    refine ⟨u, r, ?_⟩
    rcases l with ⟨k1, _⟩ | ⟨_, c, ec, z⟩
    · have k1 : X.env.scope.names.lookup x = some .local := k1
      rcases hkx with q | q <;> rw [q] at k1 <;> cases k1
    · have e3 : Vis (relabel sc X.env) x := e3
      rcases e3 with q | q | q
      · -- a block's own name is none of the free ones, unless it shadows: then the kinds say local
        rcases Zcz q with q' | ⟨_, q'⟩
        · rw [S.fnf x (List.mem_of_getElem? e1)] at q'
          cases q'
        · cases q'
      · obtain ⟨c', ec'⟩ := h2 x (PySem.mem_of_lookup (hlk x _ q (.inl rfl)))
        have := h1 x c' ec'
        rw [ec] at this; cases this
        exact .inr ⟨.inl q, c, ec', by obtain ⟨o, ho, hd⟩ := z; exact ⟨o, hk _ _ ho, hd⟩⟩
      · obtain ⟨c', ec'⟩ := h2 x (PySem.mem_of_lookup (hlk x _ q (.inr rfl)))
        have := h1 x c' ec'
        rw [ec] at this; cases this
        exact .inr ⟨.inr q, c, ec', by obtain ⟨o, ho, hd⟩ := z; exact ⟨o, hk _ _ ho, hd⟩⟩
  · obtain ⟨v, o, ho, hd⟩ := I.cell x c (h1 x c e)
    exact ⟨v, o, hk _ _ ho, hd⟩
  · exact I.hok.fresh hC
  · have hp : p ∈ (X.pn ++ pins) ++ [] := hp
    rw [List.append_nil] at hp
    obtain ⟨e, n, ne, nf, d⟩ := I.pin p hp
    exact ⟨hk _ _ e, n, Nat.ne_of_lt (Nat.lt_of_lt_of_le (Heap.lt_size e) hC), hsub _ nf ne, d⟩
  · unfold Zdt
    show _ = (LN ++ FN).length
    simp [S.frl]
end L2
end
section
namespace L2
open PySem PySem.Spec PyProof.Rows
noncomputable def PTs (X : Cx) (ifs : List Expr) (t : TT) : Prop :=
 ∀ (pins : List (Addr × Obj)) (s : Shared) (σ : St) (H : Hp) (Q : Bool -> Hp -> Prop), Inv X pins σ H s -> t σ H Q ->
  wpAny (model X.prog X.w) X.A (forIn ifs true fun c r => if r = true then do let ok <- isTrue c X.env (eval c X.env); pure (ForInStep.yield ok) else pure (ForInStep.yield r)) (TP X pins σ Q) X.xe s
noncomputable def tTrue : TT := fun _ H Q => Q true H
theorem Zcc {X : Cx} : PTs X [] tTrue := fun _ _ _ H _ I h => wpAny_tests_nil ⟨H, I, h⟩
theorem ZiU {X : Cx} {c : Expr} {t : TT} (h : PT X c t) : PTs X [c] t := fun pins s σ H Q I q => wpAny_tests_one (h pins s σ H Q I q)
theorem Un.track {fs ex : List Addr} {H H1 : Hp} {h h1 : Heap} {a : Addr} {o : HO} (u : Un fs ex H H1 h h1) (hp : h.objs.size <= a) (hn : H a = none) : Un fs ex H (upd H1 a o) h h1 where
 keep := u.keep
 slot := u.slot
 free := fun b ob q n hx => by
  rw [Zaw (Nat.ne_of_lt (Nat.lt_of_lt_of_le (Heap.lt_size q) hp))]
  exact u.free b ob q n hx
 there := u.there
 tups := fun b xs q => by
  rw [Zaw (fun z => by rw [z, hn] at q; cases q)]
  exact u.tups b xs q
 frzs := fun b ob x q => by
  rw [Zaw (fun z => by rw [z, hn] at q; cases q)]
  exact u.frzs b ob x q
 tbls := fun b ps q => by
  rw [Zaw (fun z => by rw [z, hn] at q; cases q)]
  exact u.tbls b ps q
theorem HOk.track {P : Program} {w : World} {H : Hp} {h : Heap} {a : Addr} {o : HO} (x : HOk P w H h) (hn : H a = none) (new : ObjOk P w (upd H a o) h a o) : HOk P w (upd H a o) h := fun b u e => by
 by_cases hb : b = a
 ·subst hb
  rw [Zae] at e
  cases e
  exact new
 ·rw [Zaw hb] at e
  refine (x b u e).stay (fun _ _ _ q => q) (fun c q => ?_) fun c xs q => ?_
  ·rw [Zaw (fun z => by rw [z, hn] at q; cases q)]
   exact q
  ·rw [Zaw (fun z => by rw [z, hn] at q; cases q)]
   exact q
theorem ZhX {EB : Value -> Shared -> Prop} {prog : Program} {w : World} {A : Around} {R : Result -> Shared -> Prop} {s : Shared} {elt target iter : Expr} {ifs : List Expr} {scope : Scope} {pos : Pos} {it acc : Value} {env : Env} (I : Nat -> Shared -> Prop)
    (turn : ∀ n s, I n s -> wpAny (model prog w) A (pyNext it) (fun r s₁ => match r with
      | none => R (.ok .next) s₁
      | some v => wpAny (model prog w) A (letOwnedTupleGo target it v) (fun _ s₁' => wpAny (model prog w) A (assign target env v) (fun _ s₂ =>
          wpAny (model prog w) A (forIn ifs true fun c r => if r = true then do let ok <- isTrue c env (eval c env); pure (ForInStep.yield ok) else pure (ForInStep.yield r)) (fun ok s₃ =>
            if ok = true then wpAny (model prog w) A (eval elt env) (fun x s₄ =>
              wpAny (model prog w) A (call (.builtin "list.append") [acc, x]) (fun _ s₅ => ∃ m, m < n /\ I m s₅) (fun _ _ => False) s₄) EB s₃
            else ∃ m, m < n /\ I m s₃) (fun _ _ => False) s₂) (fun _ _ => False) s₁') (fun _ _ => False) s₁) (fun _ _ => False) s)
    (hEB : ∀ e s', EB e s' -> notedBy (model prog w) A env (fun e s' => R (.error e) s') e s') (n : Nat) (h : I n s) :
    codeAny (model prog w) A (.compLoop (.ListComp elt [⟨target, iter, ifs, 0⟩] scope pos) 0 it acc env) R s := by
  refine codeAny_loop rfl I (fun n s hI => ?_) n h
  show wpAny _ A ((compTurn (.ListComp elt [⟨target, iter, ifs, 0⟩] scope pos) 0 it acc env).onRaise (fun x => do noteFrame x env; theTreesLotGoes x)) _ _ s
  refine wpAny_noted ?_
  rw [compTurn_list]
  refine wpAny_bind (wpAny_standAt (wpAny_bind (wpAny_mono (turn n s hI) (fun r s₁ h₁ => ?_) fun _ _ h' => h'.elim)))
  cases r with
  | none => exact wpAny_pure h₁
  | some v =>
    refine wpAny_bind (wpAny_mono h₁ (fun _ s₁' h₁' => ?_) fun _ _ h' => h'.elim)
    refine wpAny_bind (wpAny_mono h₁' (fun _ s₂ h₂ => wpAny_bind (wpAny_mono h₂ (fun ok s₃ h₃ => ?_) fun _ _ h' => h'.elim)) fun _ _ h' => h'.elim)
    cases ok with
    | false => exact wpAny_pure ⟨rfl, h₃⟩
    | true =>
      exact wpAny_bind (wpAny_bind (wpAny_mono h₃ (fun x s₄ h₄ => wpAny_bind (wpAny_mono h₄ (fun _ s₅ h₅ => wpAny_pure (wpAny_pure ⟨rfl, h₅⟩)) fun _ _ h' => h'.elim)) fun e s' h' => hEB e s' h'))
noncomputable def ZjU (X : Cx) (C : Addr) (e : Value) (s' : Shared) : Prop := ∃ m, s'.heap.Ns C m /\ ∀ h', Heap.SameBut C s'.heap h' -> ∀ cenv : Env, cenv.locals = C -> wpAny (model X.prog X.w) X.A (PySem.passOn "comprehension.variables-let-go" e cenv : Sem Value) (fun _ _ => False) X.xe { s' with heap := h' }
noncomputable def bkXe (X : Cx) (sc : Scope) (cl : List (Str × Addr)) (C : Addr) : Value -> Shared -> Prop := notedBy (model X.prog X.w) X.A (compEnvC sc cl C X.env) (ZjU X C)
noncomputable def BkIn (X : Cx) (C : Addr) (fp : List Addr) (pins : List (Addr × Obj)) (s : Shared) (H : Hp) : Prop := (∃ σ, Inv X pins σ H s) /\ (∀ b ∈ fp, FpOk X pins H b) /\ s.heap.objs.size <= C
noncomputable def bkX (X : Cx) (LN FN : List Str) (sc : Scope) (cl : List (Str × Addr)) (C : Addr) (fp : List Addr) (pins : List (Addr × Obj)) (s : Shared) (H : Hp) : Cx := (bkCx X LN FN sc cl C fp pins s H).wish (bkXe X sc cl C)
section
variable {X : Cx} {tg elt iter : Expr} {ifs : List Expr} {sc : Scope} {pos : Pos} {LN FN : List Str} {fr : List Nat} {wi : TI} {g : TG} {tt : TT} {te : TE}
noncomputable def CW (J : It) (g : TG) (tt : TT) (te : TE) (W : Nat -> Nat -> List V -> St -> Hp -> Prop) (Q : VK) : Prop :=
 ∀ i m ys σ H, W i m ys σ H ->
  (J.stop i H /\ ys.length <= sizeLine /\ ∀ p, H p = none -> Q (.ref p) (upd H p (.lst ys))) \/
  (J.go i H /\ ∃ N : List V -> St -> Hp -> Prop, (∀ ys' σ' H', N ys' σ' H' -> ∃ m', m' < m /\ W (i + 1) m' ys' σ' H') /\
   ∀ x H2, J.yld i H x H2 -> g x σ H2 fun σ2 H3 => tt σ2 H3 fun ok H4 => if ok = true then te σ2 H4 fun y H5 => ys.length < sizeLine /\ N (ys ++ [y]) σ2 H5 else N ys σ2 H4)
noncomputable def Zj5 (LN : List Str) (fr : List Nat) (wi : TI) (g : TG) (tt : TT) (te : TE) : TE := fun σ H Q => wi σ H fun J H1 =>
 ∃ W : Nat -> Nat -> List V -> St -> Hp -> Prop, (∃ m, W 0 m [] (Zdt LN fr σ) H1) /\ CW J g tt te W Q
theorem Zg1 {pins : List (Addr × Obj)} {σ : St} {H2 : Hp} {s2 : Shared} {it : Addr} {fp : List Addr} {tn : Nat -> Heap -> Prop} {J : It} {cl : List (Str × Addr)} {W : Nat -> Nat -> List V -> St -> Hp -> Prop} {Q : VK} {m0 : Nat}
    {R : Value -> Addr -> Result -> Shared -> Prop} {E : Value -> Shared -> Prop}
    (hc : X.calm = true) (S : BkScope X.N sc X.env.scope LN FN fr)
    (hg : ∀ cl C fp pins s H, PG (bkCx X LN FN sc cl C fp pins s H) tg g) (ht : ∀ cl C fp pins s H, PTs (bkCx X LN FN sc cl C fp pins s H) ifs tt) (he : ∀ cl C fp pins s H, BkIn X C fp pins s H -> PE (bkX X LN FN sc cl C fp pins s H) elt te)
    (h1 : ∀ x c, cl.lookup x = some c -> X.env.cells.lookup x = some c) (h2 : ∀ x, (x, NameKind.free) ∈ sc.names -> ∃ c, cl.lookup x = some c)
    (I2 : Inv X pins σ H2 s2) (T : Turn X.prog X.w X.K tg J fp it tn) (st2 : tn 0 s2.heap) (f2 : ∀ b ∈ fp, FpOk X pins H2 b) (w0 : W 0 m0 [] (Zdt LN fr σ) H2) (turn : CW J g tt te W Q)
    (hR : ∀ D C s' H' ys m, s'.heap.Ns C m -> Inv X pins σ (upd H' D (.lst ys)) s' -> FpOk X pins (upd H' D (.lst ys)) C -> Q (.ref D) (upd H' D (.lst ys)) -> R (.ref D) C (.ok .next) s') (hRE : ∀ D C e s', ZjU X C e s' -> R (.ref D) C (.error e) s') :
    wpAny (model X.prog X.w) X.A (newList []) (fun acc s₃ => wpAny (model X.prog X.w) X.A (newFunctionEnv sc X.env.globals cl [] X.env.qual none .none (some X.env)) (fun cenv s₄ =>
      codeAny (model X.prog X.w) X.A (.compStart (.ListComp elt [⟨tg, iter, ifs, 0⟩] sc pos) 0 (.ref it) acc { cenv with scope := relabel sc X.env }) (R acc cenv.locals) s₄) E s₃) E s2 := by
  refine wpAny_newObj_type (wpAny_newFunctionEnv S.nocell (by intro y hy; simp at hy) (fun h₁ hns hsb => ?_) S.kind)
  dsimp only at hns hsb ⊢
  generalize hH2 : s2.heap.push { cls := .type "list", dict := none, data := .seq ([] : List Value).toArray } = G at hns hsb ⊢
  have hC : G.objs.size = s2.heap.objs.size + 1 := by rw [<- hH2, Heap.size_push]
  have hDC : s2.heap.objs.size ≠ G.objs.size := by rw [hC]; exact Nat.ne_of_lt (Nat.lt_succ_self _)
  have hCle : s2.heap.objs.size <= G.objs.size := by rw [hC]; exact Nat.le_succ _
  have old : ∀ b o, s2.heap.get? b = some o -> h₁.get? b = some o := fun b o e =>
    hsb.extBut b o (by rw [hC]; exact Nat.ne_of_lt (Nat.lt_succ_of_lt (Heap.lt_size e))) (Heap.get?_push_of_some _ (hH2 ▸ Heap.get?_push_of_some _ e))
  have hacc : h₁.PlainList s2.heap.objs.size #[] := ⟨_, hsb.extBut _ _ hDC (Heap.get?_push_of_some _ (hH2 ▸ Heap.get?_push_size _ rfl))⟩
  have hfs : ∀ b ∈ fp, ∃ o, s2.heap.get? b = some o := fun b hb => let ⟨o, e, _⟩ := T.obj 0 _ st2 b hb; ⟨o, e⟩
  have hflt : ∀ b ∈ fp, b < s2.heap.objs.size := fun b hb => let ⟨o, e⟩ := hfs b hb; Heap.lt_size e
  generalize hD : s2.heap.objs.size = D at *
  generalize hCC : G.objs.size = C at *
  have I0 := Zk1 (LN := LN) (cl := cl) (C := C) (tk := s2.toks + ([] : List (Str × Value)).length) I2 S f2 hfs h1 h2 (by rw [hD]; exact hCle) old hns
  have hin : BkIn X C fp pins s2 H2 := ⟨⟨σ, I2⟩, f2, by rw [hD]; exact hCle⟩
  have fD : FpOk X pins H2 D := I2.fpOk (Nat.le_of_eq hD) (I2.hok.fresh (Nat.le_of_eq hD))
  have stD : ∀ {pl : List (Addr × Obj)} {H' : Hp}, H' D = none -> (∀ p ∈ pl, p.1 ≠ D) -> FpOk (bkCx X LN FN sc cl C fp pins s2 H2) pl H' D := fun {pl H'} hn hp => by
    refine ⟨hn, hDC, fun z => ?_, .inr (Nat.le_of_eq hD), fun x c e => fD.2.2.2.2.1 x c (h1 x c e), fun p hp' => ?_⟩
    · exact (List.mem_cons.mp (I2.stkSub D z)).elim fD.2.1 fD.2.2.1
    · have hp' : p ∈ (X.pn ++ pins) ++ pl := hp'
      rcases List.mem_append.mp hp' with q | q
      · exact fD.2.2.2.2.2 p q
      · exact hp p q
  have stat : ∀ {pl : List (Addr × Obj)} {H' : Hp}, (∀ b ∈ fp, H' b = none) -> (∀ p ∈ pl, p.1 = D) -> ∀ b ∈ fp, FpOk (bkCx X LN FN sc cl C fp pins s2 H2) pl H' b := fun {pl H'} hn hp b hb => by
    obtain ⟨_, n1, n2, n3, n4, n5⟩ := f2 b hb
    refine ⟨hn b hb, Nat.ne_of_lt (Nat.lt_of_lt_of_le (hflt b hb) hCle), fun z => ?_, .inl hb, fun x c e => n4 x c (h1 x c e), fun p hp' => ?_⟩
    · exact (List.mem_cons.mp (I2.stkSub b z)).elim n1 n2
    · have hp' : p ∈ (X.pn ++ pins) ++ pl := hp'
      rcases List.mem_append.mp hp' with q | q
      · exact n5 p q
      · rw [hp p q]
        exact Nat.ne_of_gt (hflt b hb)
  have pinD : ∀ {s' : Shared}, ∀ p ∈ Zcn [D] s'.heap, p.1 = D := fun p hp => by simpa using (Zgf hp).1
  have key : ∀ s₄ : Shared, s₄ = { s2 with heap := h₁, toks := s2.toks + ([] : List (Str × Value)).length } ->
      codeAny (model X.prog X.w) X.A (.compLoop (.ListComp elt [⟨tg, iter, ifs, 0⟩] sc pos) 0 (.ref it) (.ref D) (compEnvC sc cl C X.env)) (R (.ref D) C) s₄ := by
    rintro s₄ rfl
    refine ZhX (EB := bkXe X sc cl C) (fun n s' => ∃ i ys σ' H' its, Inv (bkCx X LN FN sc cl C fp pins s2 H2) [] σ' H' s' /\ tn i s'.heap /\ (∀ b ∈ fp, H' b = none) /\ W i n ys σ' H' /\ Vals ys its /\ s'.heap.PlainList D its.toArray /\ H' D = none) ?_ (fun e s' h' => wpAny_mono h' (fun _ s'' q => hRE D C e s'' q) fun e' s'' q => hRE D C e' s'' q) m0
      ⟨0, [], _, H2, [], I0, T.keep _ _ _ st2 (fun b _ o e => old b o e), fun b hb => (f2 b hb).1, w0, .nil, hacc, fD.1⟩
    rintro n s3 hh
    refine opq ?_
    intro gg
    obtain ⟨i, ys, σ3, H3, its, I3, st3, fr3, w3, rv, pl, nD⟩ := hh
    have plo : ∃ o, s3.heap.get? D = some o /\ ∀ v, o.data ≠ .cell v := by
      obtain ⟨k, e⟩ := pl
      exact ⟨_, e, fun v z => by cases z⟩
    have I3' : Inv (bkCx X LN FN sc cl C fp pins s2 H2) ([] ++ Zcn [D] s3.heap) σ3 H3 s3 := I3.pinned (fp := [D]) (fun b hb => by
      obtain rfl : b = D := by simpa using hb
      exact stD nD (fun _ z => nomatch z)) (fun b hb => by
      obtain rfl : b = D := by simpa using hb
      exact plo)
    have I3' : Inv (bkCx X LN FN sc cl C fp pins s2 H2) (Zcn [D] s3.heap) σ3 H3 s3 := I3'
    have keepD : ∀ {pl' : List (Addr × Obj)} {σ' : St} {H' : Hp} {s' : Shared}, Inv (bkCx X LN FN sc cl C fp pins s2 H2) (Zcn [D] s3.heap ++ pl') σ' H' s' -> s'.heap.PlainList D its.toArray /\ H' D = none := fun {pl' σ' H' s'} J => by
      obtain ⟨k, e⟩ := pl
      have := J.pin (D, _) (List.mem_append_right _ (List.mem_append_left _ (ZcI (by simp) e)))
      exact ⟨⟨k, this.1⟩, this.2.1⟩
    have keepD0 : ∀ {σ' : St} {H' : Hp} {s' : Shared}, Inv (bkCx X LN FN sc cl C fp pins s2 H2) (Zcn [D] s3.heap) σ' H' s' -> s'.heap.PlainList D its.toArray /\ H' D = none := fun {σ' H' s'} J => by
      refine keepD (pl' := []) (σ' := σ') ?_
      rw [List.append_nil]
      exact J
    rcases turn i n ys σ3 H3 w3 with ⟨stop, hlen, q⟩ | ⟨go, N, hN, step⟩
    · refine thn (T.done (bkCx X LN FN sc cl C fp pins s2 H2) rfl rfl rfl hc i (Zcn [D] s3.heap) s3 σ3 H3 _ I3' (stat fr3 (fun p hp => pinD (s' := s3) p hp)) st3 stop) fun r s4 hh1 => ?_
      refine opq ?_
      intro gg1
      obtain ⟨hr, I4⟩ := hh1
      subst hr
      obtain ⟨pl4, n4⟩ := keepD0 I4
      have u4 : Un (frs X.stack) fp H2 (upd H3 D (.lst ys)) s2.heap s4.heap := Un.track I4.base (Nat.le_of_eq hD) fD.1
      have nC : H3 C = none := I4.free
      have o4 : HOk X.prog X.w (upd H3 D (.lst ys)) s4.heap := HOk.track I4.hok n4 (by
        obtain ⟨k, e⟩ := pl4
        exact ⟨hlen, its, k, rv, e⟩)
      have J : Inv X pins σ (upd H3 D (.lst ys)) s4 := I2.call' (s' := s4) (ch := fp) I4.os u4 o4 I4.bare fun b hb => by
        obtain ⟨_, n1, n2, n3, n4, n5⟩ := f2 b hb
        exact ⟨n3, n1, n4, n5⟩
      obtain ⟨m, hm, _⟩ := I4.loc
      exact hR D C s4 H3 ys m hm J (I2.fpOk (by rw [hD]; exact hCle) (by rw [Zaw (Ne.symm hDC)]; exact nC)) (q D n4)
    · refine thn (T.item (bkCx X LN FN sc cl C fp pins s2 H2) rfl rfl rfl hc i (Zcn [D] s3.heap) s3 σ3 H3 _ I3' (stat fr3 (fun p hp => pinD (s' := s3) p hp)) st3 go) fun r s4 hh2 => ?_
      refine opq ?_
      intro gg2
      obtain ⟨u, hr, h4⟩ := hh2
      subst hr
      refine thn h4 fun _ s5 hh3 => ?_
      refine opq ?_
      intro gg3
      obtain ⟨x, H5, I5, r5, y5, st5, fr5⟩ := hh3
      have I5' := I5.pinned (stat fr5 (fun p hp => pinD (s' := s3) p hp)) (T.obj _ _ st5)
      refine thn (hg cl C fp pins s2 H2 _ s5 σ3 H5 x u _ I5' r5 (step x H5 y5)) fun _ s6 hh4 => ?_
      refine opq ?_
      intro gg4
      obtain ⟨σ6, H6, I6, q6⟩ := hh4
      refine thn (ht cl C fp pins s2 H2 _ s6 σ6 H6 _ I6 q6) fun ok s7 hh5 => ?_
      obtain ⟨H7, I7, q7⟩ := hh5
      have again : ∀ {s' : Shared} {H' : Hp}, Inv (bkCx X LN FN sc cl C fp pins s2 H2) (Zcn [D] s3.heap ++ Zcn fp s5.heap) σ6 H' s' -> tn (i + 1) s'.heap /\ ∀ b ∈ fp, H' b = none := fun {s' H'} J => by
        refine ⟨T.keep _ _ _ st5 fun b hb o e => (J.pin (b, o) (List.mem_append_right _ (List.mem_append_right _ (ZcI hb e)))).1, fun b hb => ?_⟩
        obtain ⟨o, e, d⟩ := T.obj _ _ st5 b hb
        exact (J.pin (b, o) (List.mem_append_right _ (List.mem_append_right _ (ZcI hb e)))).2.1
      have bare : ∀ {s' : Shared} {H' : Hp}, Inv (bkCx X LN FN sc cl C fp pins s2 H2) (Zcn [D] s3.heap ++ Zcn fp s5.heap) σ6 H' s' -> Inv (bkCx X LN FN sc cl C fp pins s2 H2) [] σ6 H' s' := fun J => J.pins_of fun p hp => nomatch hp
      cases ok with
      | false =>
        rw [if_neg Bool.false_ne_true] at q7 ⊢
        obtain ⟨m', hm, w7⟩ := hN ys σ6 H7 q7
        obtain ⟨pl7, n7⟩ := keepD I7
        exact ⟨m', hm, i + 1, ys, σ6, H7, its, bare I7, (again I7).1, (again I7).2, w7, rv, pl7, n7⟩
      | true =>
        rw [if_pos rfl] at q7 ⊢
        refine wpAny_mono (he cl C fp pins s2 H2 hin _ s7 σ6 H7 _ (I7.wish _) q7) (fun v s8 hz8 => ?_) fun _ _ z => z
        obtain ⟨y, H8, I8, r8, hl8, q8⟩ := hz8
        have I8 := I8.unwish
        obtain ⟨m', hm, w8⟩ := hN _ σ6 H8 q8
        obtain ⟨pl8, n8⟩ := keepD I8
        obtain ⟨t8, f8⟩ := again I8
        have hsz : its.toArray.size <= sizeLine := by
          have := rv.length
          rw [List.size_toArray, <- this]
          exact Nat.le_of_lt hl8
        refine wpAny_list_append_plain pl8 (fun h' pl' sb => ?_) hsz
        refine ⟨m', hm, i + 1, ys ++ [y], σ6, H8, its ++ [v], ?_, ?_, f8, w8, rv.append (.cons r8 .nil), ?_, n8⟩
        · obtain ⟨d0, d1, d2, d3, d4, d5⟩ := stD (pl := []) n8 (fun _ z => nomatch z)
          exact (bare I8).turned (t' := s8.toks) (fun b o hb e => (sb.2 b hb).trans e) d0 d1 d3 d4 d5
        · exact T.keep _ _ _ t8 fun b hb o e => (sb.2 b (Nat.ne_of_lt (hflt b hb))).trans e
        · simpa using pl'
  exact codeAny_compStart_list (key _ rfl) (T.self _ 0 _ _ _ (T.keep _ _ _ st2 fun b _ o e => old b o e) (key _ rfl))
theorem PE.any {E : Value -> Shared -> Prop} {e : Expr} {t : TE} (h : PE X e t) (hx : X.xe = fun _ _ => False) : PE (X.wish E) e t := by
 intro pins s σ H Q I q
 refine wpAny_mono (h pins s σ H Q I.unwish q) (fun v s1 h1 => ?_) (fun _ _ z => by rw [hx] at z; exact z.elim)
 obtain ⟨y, H1, I1, r1, q1⟩ := h1
 exact ⟨y, H1, I1.wish E, r1, q1⟩
theorem ZcR (hc : X.calm = true) (S : BkScope X.N sc X.env.scope LN FN fr) (hi : PI X tg iter wi)
  (hg : ∀ cl C fp pins s H, PG (bkCx X LN FN sc cl C fp pins s H) tg g) (ht : ∀ cl C fp pins s H, PTs (bkCx X LN FN sc cl C fp pins s H) ifs tt) (he : ∀ cl C fp pins s H, PE (bkCx X LN FN sc cl C fp pins s H) elt te)
  (hs : ∀ x, foldedSetIterable iter X.env x = pure x := by intro _; rfl) : PE X (.ListComp elt [⟨tg, iter, ifs, 0⟩] sc pos) (Zj5 LN fr wi g tt te) := by
 intro pins s σ H Q I h
 rw [eval_ListComp]
 obtain ⟨cl, ecl, h1, h2⟩ := ZdV (scope := sc) (env := X.env) fun y hy hk => I.ok.has y.1 (S.free y hy hk)
 refine wpAny_comprehension_free (use := none) rfl hs ecl S.kind S.names (thn (hi pins s σ H _ I h) fun v s1 q1 => thn q1 fun itv s2 q2 => ?_)
 obtain ⟨it, fp, tn, J, H2, e, I2, T, st2, f2, W, ⟨m0, w0⟩, turn⟩ := q2
 subst e
 refine Zg1 (R := fun acc C => compPost (model X.prog X.w) X.A X.xe none (EP X pins σ Q) acc C) hc S hg ht (fun cl C fp pins s H _ => (he cl C fp pins s H).any rfl) h1 h2 I2 T st2 f2 w0 turn (fun D C s' H' ys m hn J fC q => ?_) (fun _ _ _ _ z => z)
 refine ⟨m, hn, fun h' sb => ⟨.ref D, _, J.turned (t' := s'.toks) (fun b o hb e => (sb.2 b hb).trans e) fC.1 fC.2.1 fC.2.2.2.1 fC.2.2.2.2.1 fC.2.2.2.2.2, rfl, q⟩⟩
theorem ZfE {i : Nat} {x : Str} {pos' pos2 : Pos} (hc : X.calm = true) (hN : X.N.Nodup) (hix : X.N[i]? = some x) (hx : X.env.scope.names.lookup x = some .local) (S : BkScope X.N sc X.env.scope LN FN fr) (hi : PI X tg iter wi)
  (hg : ∀ cl C fp pins s H, PG (bkCx X LN FN sc cl C fp pins s H) tg g) (ht : ∀ cl C fp pins s H, PTs (bkCx X LN FN sc cl C fp pins s H) ifs tt) (he : ∀ cl C fp pins s H, PE (bkCx X LN FN sc cl C fp pins s H) elt te)
  (hsw : swapsWith (.ListComp elt [⟨tg, iter, ifs, 0⟩] sc pos) (some (.Name x pos')) pos2.line X.env = pure true := by rfl)
  (hs : ∀ x, foldedSetIterable iter X.env x = pure x := by intro _; rfl) : PS X (.Assign [.Name x pos'] (.ListComp elt [⟨tg, iter, ifs, 0⟩] sc pos) pos2) (tAsg (Zj5 LN fr wi g tt te) (Zdl i)) := by
 intro pins s σ H D0 I h
 rw [exec_Assign_Name_used _ _ _ _ hsw]
 refine wpAny_bind (wpAny_standAt (wpAny_bind ?_))
 show wpAny _ X.A (do let _ <- comprehension (.ListComp elt [⟨tg, iter, ifs, 0⟩] sc pos) sc X.env _ (newList []) false (eval iter X.env) (some (assign (.Name x pos') X.env))) _ _ s
 obtain ⟨cl, ecl, h1, h2⟩ := ZdV (scope := sc) (env := X.env) fun y hy hk => I.ok.has y.1 (S.free y hy hk)
 refine wpAny_bind (wpAny_mono (wpAny_comprehension_free (use := some (assign (.Name x pos') X.env)) (Q := fun _ s' => SP X pins D0 .next s') rfl hs ecl S.kind S.names (thn (hi pins s σ H _ I h) fun v s1 q1 => thn q1 fun itv s2 q2 => ?_))
  (fun _ s' hq => wpAny_pure (wpAny_pure hq)) fun _ _ e => e)
 obtain ⟨it, fp, tn, J, H2, e, I2, T, st2, f2, W, ⟨m0, w0⟩, turn⟩ := q2
 subst e
 refine Zg1 (R := fun acc C => compPost (model X.prog X.w) X.A X.xe (some (assign (.Name x pos') X.env)) (fun _ s' => SP X pins D0 .next s') acc C) hc S hg ht (fun cl C fp pins s H _ => (he cl C fp pins s H).any rfl) h1 h2 I2 T st2 f2 w0 turn (fun D C s' H' ys m hn J fC q => ?_) (fun _ _ _ _ z => z)
 show wpAny _ X.A (assign (.Name x pos') X.env (.ref D)) _ _ s'
 refine wpAny_assign_Name (Zes J hN hix (.inl hx) (show RelV (.ref D) (.ref D) from rfl) (fun s'' J2 ⟨a, sb2, ha⟩ => ?_) (.inr hx))
 have nCa : C ≠ a := by
  rcases ha with z | z
  ·rw [z]; exact fC.2.1
  ·exact fun q => fC.2.2.2.2.1 x a z q.symm
 refine ⟨m, hn.sameBut sb2 nCa, fun h' sb => ⟨_, _, J2.turned (t' := s''.toks) (fun b o hb e => (sb.2 b hb).trans e) fC.1 fC.2.1 fC.2.2.2.1 fC.2.2.2.2.1 fC.2.2.2.2.2, q⟩⟩
end
end L2
end
section
namespace L2
open PySem PySem.Spec PyProof.Rows
inductive D where
 | non | bl (b : Bool) | int (i : Int) | str (x : Str) | tup (ds : List D)
mutual
noncomputable def Rep (H : Hp) : D -> V -> Prop
 | .non, v => v = .non
 | .bl b, v => v = .bl b
 | .int i, v => v = .int i
 | .str x, v => v = .str x
 | .tup ds, v => ∃ a xs, v = .ref a /\ H a = some (.tup xs) /\ Reps H ds xs
noncomputable def Reps (H : Hp) : List D -> List V -> Prop
 | [], vs => vs = []
 | d :: ds, vs => ∃ v r, vs = v :: r /\ Rep H d v /\ Reps H ds r
end
noncomputable def TSame (H H' : Hp) : Prop := ∀ a xs, H a = some (.tup xs) -> H' a = some (.tup xs)
theorem Same.ts {H H' : Hp} (h : Same H H') : TSame H H' := fun a xs e => h a _ e
theorem Same.new {H : Hp} {a : Addr} {o : HO} (h : H a = none) : Same H (upd H a o) := fun b u e => by rw [Zaw (Zbn e h)]; exact e
theorem TSame.wr {H : Hp} {a : Addr} {o : HO} (h : ∀ xs, H a ≠ some (.tup xs)) : TSame H (upd H a o) := fun b xs e => by
 rw [Zaw (fun z => by subst z; exact h xs e)]
 exact e
mutual
theorem Rep.mono {H H' : Hp} (t : TSame H H') : ∀ {d : D} {v : V}, Rep H d v -> Rep H' d v
  | .non, _, h => by simpa [Rep] using h
  | .bl _, _, h => by simpa [Rep] using h
  | .int _, _, h => by simpa [Rep] using h
  | .str _, _, h => by simpa [Rep] using h
  | .tup ds, v, h => by
    rw [Rep] at h ⊢
    obtain ⟨a, xs, e, ha, r⟩ := h
    exact ⟨a, xs, e, t a xs ha, Reps.mono t r⟩
theorem Reps.mono {H H' : Hp} (t : TSame H H') : ∀ {ds : List D} {vs : List V}, Reps H ds vs -> Reps H' ds vs
  | [], _, h => by simpa [Reps] using h
  | d :: ds, vs, h => by
    rw [Reps] at h ⊢
    obtain ⟨v, r, e, h1, h2⟩ := h
    exact ⟨v, r, e, Rep.mono t h1, Reps.mono t h2⟩
end
theorem ZbZ {H : Hp} {i : Int} : Rep H (.int i) (.int i) := by rw [Rep]
theorem ZbY {H : Hp} {a : Addr} {xs : List V} {ds : List D} (h : H a = some (.tup xs)) (r : Reps H ds xs) : Rep H (.tup ds) (.ref a) := by rw [Rep]; exact ⟨a, xs, rfl, h, r⟩
theorem ZaT {H : Hp} : Reps H [] [] := by rw [Reps]
theorem Zau {H : Hp} {d : D} {ds : List D} {v : V} {vs : List V} (h : Rep H d v) (r : Reps H ds vs) : Reps H (d :: ds) (v :: vs) := by rw [Reps]; exact ⟨v, vs, rfl, h, r⟩
theorem Zbr {H : Hp} {i : Int} {v : V} (h : Rep H (.int i) v) : v = .int i := by rwa [Rep] at h
theorem Zbi {H : Hp} {v : V} {ds : List D} (h : Rep H (.tup ds) v) : ∃ a xs, v = .ref a /\ H a = some (.tup xs) /\ Reps H ds xs := by rwa [Rep] at h
theorem ZbS {H : Hp} {vs : List V} (h : Reps H [] vs) : vs = [] := by rwa [Reps] at h
theorem ZaK {H : Hp} {d : D} {ds : List D} {vs : List V} (h : Reps H (d :: ds) vs) : ∃ v r, vs = v :: r /\ Rep H d v /\ Reps H ds r := by rwa [Reps] at h
theorem Reps.length {H : Hp} : ∀ {ds : List D} {vs : List V}, Reps H ds vs -> ds.length = vs.length
  | [], vs, h => by rw [ZbS h]; rfl
  | d :: ds, vs, h => by
    obtain ⟨v, r, rfl, _, h2⟩ := ZaK h
    simp [Reps.length h2]
theorem Reps.get {H : Hp} : ∀ {ds : List D} {vs : List V} {i : Nat} {d : D}, Reps H ds vs -> ds[i]? = some d -> ∃ v, vs[i]? = some v /\ Rep H d v
  | [], vs, i, d, h, e => by simp at e
  | d :: ds, vs, 0, d', h, e => by
    obtain ⟨v, r, rfl, h1, h2⟩ := ZaK h
    simp at e; subst e
    exact ⟨v, rfl, h1⟩
  | d :: ds, vs, i + 1, d', h, e => by
    obtain ⟨v, r, rfl, h1, h2⟩ := ZaK h
    obtain ⟨u, e1, e2⟩ := Reps.get (i := i) (d := d') h2 (by simpa using e)
    exact ⟨u, by simpa using e1, e2⟩
theorem Reps.get' {H : Hp} {ds : List D} {vs : List V} {i : Nat} {v : V} (h : Reps H ds vs) (e : vs[i]? = some v) : ∃ d, ds[i]? = some d /\ Rep H d v := by
 have hl := h.length
 have hi : i < vs.length := (List.getElem?_eq_some_iff.mp e).1
 obtain ⟨u, e1, e2⟩ := h.get (i := i) (d := ds[i]'(by lia)) (List.getElem?_eq_getElem (by lia))
 rw [e] at e1; cases e1
 exact ⟨_, List.getElem?_eq_getElem (by lia), e2⟩
theorem Reps.append {H : Hp} : ∀ {ds es : List D} {vs ws : List V}, Reps H ds vs -> Reps H es ws -> Reps H (ds ++ es) (vs ++ ws)
  | [], es, vs, ws, h, r => by rw [ZbS h]; exact r
  | d :: ds, es, vs, ws, h, r => by
    obtain ⟨v, q, rfl, h1, h2⟩ := ZaK h
    exact Zau h1 (Reps.append h2 r)
theorem Zf9 {H : Hp} : ∀ {ns : List Int} {vs : List V}, Reps H (ns.map D.int) vs -> vs = ns.map V.int
  | [], vs, h => ZbS h
  | n :: ns, vs, h => by
    obtain ⟨v, r, rfl, h1, h2⟩ := ZaK h
    rw [Zbr h1, Zf9 h2]
    rfl
mutual
noncomputable def D.pl : D -> Bool
 | .bl _ => false
 | .tup ds => D.pls ds
 | _ => true
noncomputable def D.pls : List D -> Bool
 | [] => true
 | d :: ds => d.pl && D.pls ds
end
mutual
noncomputable def D.dep : D -> Nat
 | .tup ds => D.deps ds + 1
 | _ => 0
noncomputable def D.deps : List D -> Nat
 | [] => 0
 | d :: ds => max d.dep (D.deps ds)
end
theorem D.pls_get : ∀ {ds : List D} {i : Nat} {d : D}, D.pls ds = true -> ds[i]? = some d -> d.pl = true
  | [], i, d, _, e => by simp at e
  | d :: ds, 0, d', h, e => by
    simp at e; subst e
    rw [D.pls, Bool.and_eq_true] at h
    exact h.1
  | d :: ds, i + 1, d', h, e => by
    rw [D.pls, Bool.and_eq_true] at h
    exact D.pls_get (i := i) h.2 (by simpa using e)
theorem D.deps_get : ∀ {ds : List D} {i : Nat} {d : D}, ds[i]? = some d -> d.dep <= D.deps ds
  | [], i, d, e => by simp at e
  | d :: ds, 0, d', e => by
    simp at e; subst e
    rw [D.deps]; lia
  | d :: ds, i + 1, d', e => by
    have := D.deps_get (ds := ds) (i := i) (d := d') (by simpa using e)
    rw [D.deps]; lia
open Classical in
noncomputable def eqD (d e : D) : Bool := decide (d = e)
theorem eqD_true {d e : D} : eqD d e = true ↔ d = e := by unfold eqD; simp
theorem Zcl {d : D} : eqD d d = true := eqD_true.mpr rfl
theorem Za3 {d e : D} (h : d ≠ e) : eqD d e = false := by unfold eqD; simp [h]
theorem ZmO {i j : Int} : eqD (.int i) (.int j) = (i == j) := by
 by_cases h : i = j
 ·subst h; rw [Zcl]; simp
 ·rw [Za3 (by intro z; cases z; exact h rfl)]; simp [h]
theorem ZmN {i j : Str} : eqD (.str i) (.str j) = (i == j) := by
 by_cases h : i = j
 ·subst h; rw [Zcl]; simp
 ·rw [Za3 (by intro z; cases z; exact h rfl)]; simp [h]
noncomputable def ZfP (ds es : List D) (f : D -> D -> Bool) (j : Nat) : Bool := match ds[j]?, es[j]? with | some a, some b => f a b | _, _ => false
theorem ZgQ {ds es : List D} : ((List.range (min ds.length es.length)).all (ZfP ds es eqD) && ds.length == es.length) = eqD (.tup ds) (.tup es) := by
 by_cases h : ds = es
 ·subst h
  rw [Zcl]
  simp only [beq_self_eq_true, Bool.and_true, List.all_eq_true, List.mem_range]
  intro j hj
  have hj : j < ds.length := by lia
  unfold ZfP
  rw [List.getElem?_eq_getElem hj]
  exact Zcl
 ·rw [Za3 (by intro z; cases z; exact h rfl)]
  by_cases hl : ds.length = es.length
  ·rw [Bool.and_eq_false_iff]
   left
   rw [<- Bool.not_eq_true]
   intro hall
   apply h
   refine List.ext_getElem? fun j => ?_
   by_cases hj : j < ds.length
   ·have hj' : j < es.length := by lia
    have := List.all_eq_true.mp hall j (List.mem_range.mpr (by lia))
    unfold ZfP at this
    rw [List.getElem?_eq_getElem hj, List.getElem?_eq_getElem hj'] at this
    rw [List.getElem?_eq_getElem hj, List.getElem?_eq_getElem hj', eqD_true.mp this]
   ·rw [List.getElem?_eq_none (by lia), List.getElem?_eq_none (by lia)]
  ·rw [Bool.and_eq_false_iff]
   right
   simpa using hl
section
variable {X : Cx} {pins : List (Addr × Obj)} {σ : St} {H : Hp} {s : Shared}
theorem Inv.isTup (I : Inv X pins σ H s) {a : Addr} {xs : List V} (h : H a = some (.tup xs)) : ∃ its : List Value, Vals xs its /\ s.heap.IsTuple a its.toArray := by
 obtain ⟨_, its, r, p⟩ := (show ObjOk X.prog X.w H s.heap a (.tup xs) from I.hok a _ h)
 exact ⟨its, r, p⟩
theorem Zgs (I : Inv X pins σ H s) {d e : D} {x y : V} {u v : Value} {A : Around} (hd : d.dep = 0) (pd : d.pl = true) (pe : e.pl = true) (rd : Rep H d x) (re : Rep H e y) (ru : RelV x u) (rv : RelV y v) (hu : A.units < cLine) : SeqAt.EqAt A s u v (eqD d e) := by
  cases d with
  | tup ds => rw [D.dep] at hd; lia
  | bl b => simp [D.pl] at pd
  | non =>
    rw [Rep] at rd; subst rd; cases ru
    cases e with
    | bl b => simp [D.pl] at pe
    | non => rw [Rep] at re; subst re; cases rv; rw [Zcl]; exact SeqAt.EqAt.same _
    | int b => rw [Rep] at re; subst re; obtain ⟨t, rfl⟩ := rv; rw [Za3 (by intro z; cases z)]; exact SeqAt.EqAt.none_int b t
    | str b => rw [Rep] at re; subst re; obtain ⟨t, rfl⟩ := rv; rw [Za3 (by intro z; cases z)]; exact SeqAt.EqAt.none_str b t
    | tup es =>
      rw [Rep] at re
      obtain ⟨a, xs, rfl, ha, _⟩ := re
      cases rv
      obtain ⟨its, _, ht⟩ := I.isTup ha
      rw [Za3 (by intro z; cases z)]
      exact SeqAt.EqAt.none_tuple ht hu
  | int i =>
    rw [Rep] at rd; subst rd; obtain ⟨t, rfl⟩ := ru
    cases e with
    | bl b => simp [D.pl] at pe
    | non => rw [Rep] at re; subst re; cases rv; rw [Za3 (by intro z; cases z)]; exact SeqAt.EqAt.int_none i t
    | int b => rw [Rep] at re; subst re; obtain ⟨t', rfl⟩ := rv; rw [ZmO]; exact SeqAt.EqAt.int_int i t b t'
    | str b => rw [Rep] at re; subst re; obtain ⟨t', rfl⟩ := rv; rw [Za3 (by intro z; cases z)]; exact SeqAt.EqAt.int_str i t b t'
    | tup es =>
      rw [Rep] at re
      obtain ⟨a, xs, rfl, ha, _⟩ := re
      cases rv
      obtain ⟨its, _, ht⟩ := I.isTup ha
      rw [Za3 (by intro z; cases z)]
      exact SeqAt.EqAt.int_tuple i t ht hu
  | str i =>
    rw [Rep] at rd; subst rd; obtain ⟨t, rfl⟩ := ru
    cases e with
    | bl b => simp [D.pl] at pe
    | non => rw [Rep] at re; subst re; cases rv; rw [Za3 (by intro z; cases z)]; exact SeqAt.EqAt.str_none i t
    | int b => rw [Rep] at re; subst re; obtain ⟨t', rfl⟩ := rv; rw [Za3 (by intro z; cases z)]; exact SeqAt.EqAt.str_int i t b t'
    | str b => rw [Rep] at re; subst re; obtain ⟨t', rfl⟩ := rv; rw [ZmN]; exact SeqAt.EqAt.str_str i t b t'
    | tup es =>
      rw [Rep] at re
      obtain ⟨a, xs, rfl, ha, _⟩ := re
      cases rv
      obtain ⟨its, _, ht⟩ := I.isTup ha
      rw [Za3 (by intro z; cases z)]
      exact SeqAt.EqAt.str_tuple i t ht hu
mutual
theorem Rep.inj {H : Hp} : ∀ {d e : D} {v : V}, Rep H d v -> Rep H e v -> d = e
  | .non, .non, _, _, _ => rfl
  | .bl a, .bl b, v, h, h' => by simp only [Rep] at h h'; rw [h] at h'; cases h'; rfl
  | .int a, .int b, v, h, h' => by simp only [Rep] at h h'; rw [h] at h'; cases h'; rfl
  | .str a, .str b, v, h, h' => by simp only [Rep] at h h'; rw [h] at h'; cases h'; rfl
  | .tup ds, .tup es, v, h, h' => by
    rw [Rep] at h h'
    obtain ⟨a, xs, rfl, ha, r⟩ := h
    obtain ⟨b, ys, e, hb, r'⟩ := h'
    cases e
    rw [ha] at hb; cases hb
    rw [Reps.inj r r']
  | .non, .bl _, v, h, h' => by simp only [Rep] at h h'; rw [h] at h'; cases h'
  | .non, .int _, v, h, h' => by simp only [Rep] at h h'; rw [h] at h'; cases h'
  | .non, .str _, v, h, h' => by simp only [Rep] at h h'; rw [h] at h'; cases h'
  | .non, .tup _, v, h, h' => by simp only [Rep] at h h'; obtain ⟨_, _, e, _⟩ := h'; rw [h] at e; cases e
  | .bl _, .non, v, h, h' => by simp only [Rep] at h h'; rw [h] at h'; cases h'
  | .bl _, .int _, v, h, h' => by simp only [Rep] at h h'; rw [h] at h'; cases h'
  | .bl _, .str _, v, h, h' => by simp only [Rep] at h h'; rw [h] at h'; cases h'
  | .bl _, .tup _, v, h, h' => by simp only [Rep] at h h'; obtain ⟨_, _, e, _⟩ := h'; rw [h] at e; cases e
  | .int _, .non, v, h, h' => by simp only [Rep] at h h'; rw [h] at h'; cases h'
  | .int _, .bl _, v, h, h' => by simp only [Rep] at h h'; rw [h] at h'; cases h'
  | .int _, .str _, v, h, h' => by simp only [Rep] at h h'; rw [h] at h'; cases h'
  | .int _, .tup _, v, h, h' => by simp only [Rep] at h h'; obtain ⟨_, _, e, _⟩ := h'; rw [h] at e; cases e
  | .str _, .non, v, h, h' => by simp only [Rep] at h h'; rw [h] at h'; cases h'
  | .str _, .bl _, v, h, h' => by simp only [Rep] at h h'; rw [h] at h'; cases h'
  | .str _, .int _, v, h, h' => by simp only [Rep] at h h'; rw [h] at h'; cases h'
  | .str _, .tup _, v, h, h' => by simp only [Rep] at h h'; obtain ⟨_, _, e, _⟩ := h'; rw [h] at e; cases e
  | .tup _, .non, v, h, h' => by simp only [Rep] at h h'; obtain ⟨_, _, e, _⟩ := h; rw [h'] at e; cases e
  | .tup _, .bl _, v, h, h' => by simp only [Rep] at h h'; obtain ⟨_, _, e, _⟩ := h; rw [h'] at e; cases e
  | .tup _, .int _, v, h, h' => by simp only [Rep] at h h'; obtain ⟨_, _, e, _⟩ := h; rw [h'] at e; cases e
  | .tup _, .str _, v, h, h' => by simp only [Rep] at h h'; obtain ⟨_, _, e, _⟩ := h; rw [h'] at e; cases e
theorem Reps.inj {H : Hp} : ∀ {ds es : List D} {vs : List V}, Reps H ds vs -> Reps H es vs -> ds = es
  | [], [], _, _, _ => rfl
  | [], e :: es, vs, h, h' => by rw [ZbS h] at h'; obtain ⟨_, _, z, _⟩ := ZaK h'; cases z
  | d :: ds, [], vs, h, h' => by rw [ZbS h'] at h; obtain ⟨_, _, z, _⟩ := ZaK h; cases z
  | d :: ds, e :: es, vs, h, h' => by
    obtain ⟨v, r, rfl, h1, h2⟩ := ZaK h
    obtain ⟨v', r', z, h1', h2'⟩ := ZaK h'
    cases z
    rw [Rep.inj h1 h1', Reps.inj h2 h2']
end
theorem eqAt_D (I : Inv X pins σ H s) : ∀ (n : Nat) {d e : D} {x y : V} {u v : Value} {A : Around}, d.dep <= n -> d.pl = true -> e.pl = true -> Rep H d x -> Rep H e y -> RelV x u -> RelV y v -> A.units + n < cLine -> SeqAt.EqAt A s u v (eqD d e) := by
  intro n
  induction n with
  | zero =>
    intro d e x y u v A hn pd pe rd re ru rv hu
    exact Zgs I (by lia) pd pe rd re ru rv (by lia)
  | succ n ih =>
    intro d e x y u v A hn pd pe rd re ru rv hu
    by_cases h0 : d.dep = 0
    · exact Zgs I h0 pd pe rd re ru rv (by lia)
    · cases d with
      | non => simp [D.dep] at h0
      | bl _ => simp [D.dep] at h0
      | int _ => simp [D.dep] at h0
      | str _ => simp [D.dep] at h0
      | tup ds =>
        obtain ⟨a, xs, rfl, ha, r⟩ := Zbi rd
        cases ru
        obtain ⟨its, vx, ht⟩ := I.isTup ha
        cases e with
        | bl b => simp [D.pl] at pe
        | non => rw [Rep] at re; subst re; cases rv; rw [Za3 (by intro z; cases z)]; exact SeqAt.EqAt.tuple_none ht (by lia)
        | int b => rw [Rep] at re; subst re; obtain ⟨t, rfl⟩ := rv; rw [Za3 (by intro z; cases z)]; exact SeqAt.EqAt.tuple_int b t ht (by lia)
        | str b => rw [Rep] at re; subst re; obtain ⟨t, rfl⟩ := rv; rw [Za3 (by intro z; cases z)]; exact SeqAt.EqAt.tuple_str b t ht (by lia)
        | tup es =>
          obtain ⟨b, ys, rfl, hb, r'⟩ := Zbi re
          cases rv
          by_cases hab : a = b
          · subst hab
            rw [Rep.inj rd re, Zcl]
            exact SeqAt.EqAt.same _
          · obtain ⟨its', vy, ht'⟩ := I.isTup hb
            refine SeqAt.EqAt.of_refs hab ?_
            have l1 := vx.length
            have l2 := vy.length
            have l3 := r.length
            have l4 := r'.length
            have key := SeqAt.RcAt.tuples (A := A) (e := ZfP ds es eqD) ht ht' (by lia) fun j h1 h2 => ?_
            · rw [<- ZgQ, l3, l4, l1, l2]
              simpa using key
            · have h1' : j < its.length := by simpa using h1
              have h2' : j < its'.length := by simpa using h2
              have e1 : ds[j]? = some (ds[j]'(by lia)) := List.getElem?_eq_getElem _
              have e2 : es[j]? = some (es[j]'(by lia)) := List.getElem?_eq_getElem _
              obtain ⟨v1, q1, p1⟩ := r.get e1
              obtain ⟨v2, q2, p2⟩ := r'.get e2
              obtain ⟨u1, z1, w1⟩ := vx.get q1
              obtain ⟨u2, z2, w2⟩ := vy.get q2
              have y1 : its.toArray[j] = u1 := by
                have : its[j]? = some its[j] := List.getElem?_eq_getElem h1'
                rw [z1] at this
                simpa using (Option.some.inj this).symm
              have y2 : its'.toArray[j] = u2 := by
                have : its'[j]? = some its'[j] := List.getElem?_eq_getElem h2'
                rw [z2] at this
                simpa using (Option.some.inj this).symm
              rw [y1, y2]
              unfold ZfP
              rw [e1, e2]
              rw [D.dep] at hn
              have hdep := D.deps_get e1
              rw [D.pl] at pd pe
              exact ih (by lia) (D.pls_get pd e1) (D.pls_get pe e2) p1 p2 w1 w2 (by show A.units + 1 + n < cLine; lia)
end
end L2
end
section
namespace L2
open PySem PySem.Spec PyProof.Rows
section
variable {X : Cx}
theorem Zhy {X : Cx} {pins : List (Addr × Obj)} {σ : St} {H : Hp} {s : Shared} {A : Around} (I : Inv X pins σ H s) {ds es : List D} {xs ys : List V} {its its' : List Value} (vx : Vals xs its) (vy : Vals ys its') (r : Reps H ds xs) (r' : Reps H es ys) (pd : D.pls ds = true) (pe : D.pls es = true)
  (hd : D.deps ds <= 40) (hu : A.units + 40 < cLine) : ∀ j (h1 : j < its.toArray.size) (h2 : j < its'.toArray.size), SeqAt.EqAt A s its.toArray[j] its'.toArray[j] (ZfP ds es eqD j) := by
 intro j h1 h2
 have l1 := vx.length
 have l2 := vy.length
 have l3 := r.length
 have l4 := r'.length
 have h1' : j < its.length := by simpa using h1
 have h2' : j < its'.length := by simpa using h2
 have e1 : ds[j]? = some (ds[j]'(by lia)) := List.getElem?_eq_getElem _
 have e2 : es[j]? = some (es[j]'(by lia)) := List.getElem?_eq_getElem _
 obtain ⟨v1, q1, p1⟩ := r.get e1
 obtain ⟨v2, q2, p2⟩ := r'.get e2
 obtain ⟨u1, z1, w1⟩ := vx.get q1
 obtain ⟨u2, z2, w2⟩ := vy.get q2
 have y1 : its.toArray[j] = u1 := by
  have : its[j]? = some its[j] := List.getElem?_eq_getElem h1'
  rw [z1] at this
  simpa using (Option.some.inj this).symm
 have y2 : its'.toArray[j] = u2 := by
  have : its'[j]? = some its'[j] := List.getElem?_eq_getElem h2'
  rw [z2] at this
  simpa using (Option.some.inj this).symm
 rw [y1, y2]
 unfold ZfP
 rw [e1, e2]
 have hdep := D.deps_get e1
 exact eqAt_D I 40 (by lia) (D.pls_get pd e1) (D.pls_get pe e2) p1 p2 w1 w2 hu
noncomputable def rEqL (K : PySem.W.Frag) : R2 := fun x y H Q => ∃ a b xs ys ds es, x = .ref a /\ y = .ref b /\ SqL K H a xs /\ SqL K H b ys /\ Reps H ds xs /\ Reps H es ys /\ D.pls ds = true /\ D.pls es = true /\ D.deps ds <= 40 /\ Q (.bl (eqD (.tup ds) (.tup es))) H
noncomputable def rNeL (K : PySem.W.Frag) : R2 := fun x y H Q => ∃ a b xs ys ds es, x = .ref a /\ y = .ref b /\ SqL K H a xs /\ SqL K H b ys /\ Reps H ds xs /\ Reps H es ys /\ D.pls ds = true /\ D.pls es = true /\ D.deps ds <= 40 /\ Q (.bl (!eqD (.tup ds) (.tup es))) H
theorem op_eqL (hu : X.A.units + 64 < cLine) : OpR X (compareOp .Eq) (rEqL X.K) := by
 rintro pins s σ H x y v u Q I rx ry ⟨a, b, xs, ys, ds, es, rfl, rfl, ha, hb, r, r', pd, pe, hd, q⟩
 cases rx; cases ry
 obtain ⟨its, vx, ht, _⟩ := I.list ha
 obtain ⟨its', vy, ht', _⟩ := I.list hb
 by_cases hl : its.length = its'.length
 ·refine SeqAt.eq_listAt (e := ZfP ds es eqD) ht.isList ht'.isList (by simpa using hl) (by lia) (Zhy (A := X.A.in1) I vx vy r r' pd pe hd (by show X.A.units + 1 + 40 < cLine; lia)) ?_
  refine ZaN I q ?_
  rw [<- ZgQ, r.length, r'.length, vx.length, vy.length, hl]
  simp [hl]
 ·refine SeqAt.eq_list_lengthsAt ht.isList ht'.isList (by simpa using hl) (by lia) (ZaN I q ?_)
  refine Za3 fun z => hl ?_
  cases z
  rw [<- vx.length, <- vy.length, <- r.length, <- r'.length]
theorem Zlj (hu : X.A.units + 64 < cLine) : OpR X (compareOp .NotEq) (rNeL X.K) := by
 rintro pins s σ H x y v u Q I rx ry ⟨a, b, xs, ys, ds, es, rfl, rfl, ha, hb, r, r', pd, pe, hd, q⟩
 cases rx; cases ry
 obtain ⟨its, vx, ht, _⟩ := I.list ha
 obtain ⟨its', vy, ht', _⟩ := I.list hb
 by_cases hl : its.length = its'.length
 ·refine SeqAt.RcNeAt.lists (e := ZfP ds es eqD) ht.isList ht'.isList (by simpa using hl) (by lia) (Zhy (A := X.A.in1) I vx vy r r' pd pe hd (by show X.A.units + 1 + 40 < cLine; lia)) _ _ _ _ ?_
  refine ZaN I q ?_
  rw [<- ZgQ, r.length, r'.length, vx.length, vy.length, hl]
  simp [hl]
 ·refine SeqAt.RcNeAt.lists_lengths ht.isList ht'.isList (by simpa using hl) (by lia) _ _ _ _ (ZaN I q ?_)
  rw [Za3 fun z => hl ?_]
  ·rfl
  ·cases z
   rw [<- vx.length, <- vy.length, <- r.length, <- r'.length]
noncomputable def CBig (i j : Int) : Prop := i.natAbs < 2 ^ 8000 /\ j.natAbs < 2 ^ 8000
theorem ZhG {i : Int} (h : i.natAbs < 2 ^ 8000) : Builtin.Int.intBits i <= 8000 := by
 unfold Builtin.Int.intBits
 by_cases h0 : i = 0
 ·simp [h0]
 ·have : (i == 0) = false := by simpa using h0
  rw [this]
  have := (Nat.log2_lt (show i.natAbs ≠ 0 by lia)).mpr h
  simp
  lia
theorem CBig.ok {i j : Int} (h : CBig i j) : IntMulOk i j := by
 unfold IntMulOk
 have h1 := ZhG h.1
 have h2 := ZhG h.2
 have hb : Builtin.Int.intTooBig (Builtin.Int.intBits i + Builtin.Int.intBits j) = false := by
  unfold Builtin.Int.intTooBig
  rw [decide_eq_false]
  have : (16000 : Int) <= bitsLine := by decide
  lia
 rw [hb]
 simp
theorem ZeH : OpR X (binaryOp .Mult) (rI CBig fun i j => .int (i * j)) := opI fun _ _ _ _ _ _ _ hc q => mul_int q hc.ok
noncomputable def ZmY (i j : Int) : Prop := 0 < j /\ j.natAbs < 2 ^ 8000
theorem Zde : OpR X (binaryOp .FloorDiv) (rI ZmY fun i j => .int (i / j)) := opI fun i j _ _ _ _ _ hc q => by
 have hj : j ≠ 0 := by have := hc.1; lia
 refine floordiv_int hj ?_ (.inl (PyProof.noPylong_of_log2 ?_))
 ·rw [Int.fdiv_eq_ediv_of_nonneg _ (by have := hc.1; lia)]
  exact q
 ·have := (Nat.log2_lt (show j.natAbs ≠ 0 by lia)).mpr hc.2
  lia
noncomputable def isi (t T : String) : Bool := t == T || (t == "bool" && T == "int")
theorem kit_of {K : PySem.W.Frag} : ∀ {t T : String}, t ∈ ["int", "bool", "str", "tuple", "list", "dict", "NoneType"] -> T ∈ ["int", "bool", "str", "tuple", "list", "dict"] -> PySem.W.kitOne K (.type t) (.type T) = some (isi t T) := by
 intro t T ht hT
 simp only [List.mem_cons, List.mem_nil_iff, or_false] at ht hT
 rcases ht with rfl | rfl | rfl | rfl | rfl | rfl | rfl <;> rcases hT with rfl | rfl | rfl | rfl | rfl | rfl <;> with_unfolding_all rfl
noncomputable def tyN (H : Hp) : V -> Option String
  | .non => some "NoneType"
  | .bl _ => some "bool"
  | .int _ => some "int"
  | .str _ => some "str"
  | .ref a => match H a with
    | some (.lst _) => some "list"
    | some (.frz _ (.lst _)) => some "list"
    | some (.tup _) => some "tuple"
    | some (.dK _) => some "dict"
    | some (.dT _) => some "dict"
    | _ => none
  | _ => none
theorem tyN_of {K : PySem.W.Frag} {H : Hp} {x : V} {t : String} (h : tyN H x = some t) : TyOf K H x (.type t) /\ t ∈ ["int", "bool", "str", "tuple", "list", "dict", "NoneType"] := by
  cases x with
  | non => cases h; exact ⟨.non, by simp⟩
  | bl b => cases h; exact ⟨.bl b, by simp⟩
  | int i => cases h; exact ⟨.int i, by simp⟩
  | str y => cases h; exact ⟨.str y, by simp⟩
  | ref a =>
    simp only [tyN] at h
    split at h
    · rename_i e; cases h; exact ⟨.lst e, by simp⟩
    · rename_i e; cases h; exact ⟨.frz e, by simp⟩
    · rename_i e; cases h; exact ⟨.tup e, by simp⟩
    · rename_i e; cases h; exact ⟨.dK e, by simp⟩
    · rename_i e; cases h; exact ⟨.dT e, by simp⟩
    · cases h
  | byt _ => cases h
  | flt _ => cases h
  | ty _ => cases h
noncomputable def rIsi : List V -> Hp -> VK -> Prop := fun xs H Q => ∃ x T t, xs = [x, .ty T] /\ tyN H x = some t /\ T ∈ ["int", "bool", "str", "tuple", "list", "dict"] /\ Q (.bl (isi t T)) H
theorem ZbV : Zct X (.builtin "isinstance") rIsi := by
  intro pins s σ H xs us Q I r h
  obtain ⟨x, T, t, rfl, ht, hT, q⟩ := h
  cases r with
  | cons r1 r2 =>
    cases r2 with
    | cons r3 r4 =>
      cases r4
      cases r3
      obtain ⟨ty, hm⟩ := tyN_of (K := X.K) ht
      exact Zjr I r1 ty (kit_of hm hT) fun tk => ⟨.bl _, H, I.tok _, rfl, q⟩
end
structure Callee (P : Program) (w : World) (K : PySem.W.Frag) (mg : Str -> Option Value) (base : Heap) (x : Str) (k : Nat) (ps : List Str) (sp : Sp) : Prop where
 ex : ∃ f fd, FnOk P w K mg base CX0 k f fd ps sp /\ mg x = some (.ref f) /\ PySem.W.keepIn K (.ref f) = true /\ Binds K fd ps []
theorem ZaG {X : Cx} {x : Str} {k : Nat} {ps : List Str} {sp : Sp} {p pos : Pos} {e : Expr} {es : List Expr} {t : TA} (C : Callee X.prog X.w X.K X.mg X.base x k ps sp) (hr : Room k X.A) (hg : Gl X x) (ha : PA X (e :: es) t) (hdb : (x == ("__debug__" : Str)) = false := by decide)
  (he : starEach (e :: es) X.env = (false, eval e X.env) :: starEach es X.env := by rfl) (hpl : (backTo pos (starEach es X.env)).any (·.1) = false := by rfl) :
  PE X (.Call (.Name x p) (e :: es) [] pos) (Zer sp [] E0 t) := by
 obtain ⟨f, fd, F, hm, hk, hb⟩ := C.ex
 exact ZgJ F hr hg hm hk hb .nil Zmr ha hdb he hpl
theorem Zfc {X : Cx} {x : Str} {k : Nat} {ps : List Str} {sp : Sp} {p pos : Pos} (C : Callee X.prog X.w X.K X.mg X.base x k ps sp) (hr : Room k X.A) (hg : Gl X x) (hdb : (x == ("__debug__" : Str)) = false := by decide) :
  PE X (.Call (.Name x p) [] [] pos) (Zer sp [] E0 tNil) := by
 obtain ⟨f, fd, F, hm, hk, hb⟩ := C.ex
 exact Zky F hr hg hm hk hb .nil Zmr hdb
section
variable {K : PySem.W.Frag} {a : Addr} {xs : List V} {g : TG} {tt : TT} {te : TE} {Q : VK} {σ : St} {H : Hp}
noncomputable def CN (Pv : Nat -> List V -> St -> Hp -> Prop) (i : Nat) (ys' : List V) (σ' : St) (H' : Hp) : Prop := ys'.length <= i + 1 /\ Pv (i + 1) ys' σ' H'
theorem ZkY {J : It} (n : Nat) (hz : n <= sizeLine) (Pv : Nat -> List V -> St -> Hp -> Prop) (h0 : Pv 0 [] σ H) (hgo : ∀ i ys σ H, i < n -> Pv i ys σ H -> J.go i H) (hstop : ∀ ys σ H, Pv n ys σ H -> J.stop n H)
  (hs : ∀ i x ys σ H H2, i < n -> ys.length <= i -> ys.length < sizeLine -> Pv i ys σ H -> J.yld i H x H2 -> g x σ H2 fun σ2 H3 => tt σ2 H3 fun ok H4 => if ok = true then te σ2 H4 fun y H5 => ys.length < sizeLine /\ CN Pv i (ys ++ [y]) σ2 H5 else CN Pv i ys σ2 H4)
  (hd : ∀ ys σ H, ys.length <= n -> Pv n ys σ H -> ∀ p, H p = none -> Q (.ref p) (upd H p (.lst ys))) :
  ∃ W : Nat -> Nat -> List V -> St -> Hp -> Prop, (∃ m, W 0 m [] σ H) /\ CW J g tt te W Q := by
 refine ⟨fun i m ys σ H => m = n - i /\ i <= n /\ ys.length <= i /\ Pv i ys σ H, ⟨n, by simp, Nat.zero_le _, Nat.le_refl _, h0⟩, ?_⟩
 rintro i m ys σ H ⟨rfl, hi, hy, p⟩
 by_cases hlt : i < n
 ·exact .inr ⟨hgo i ys σ H hlt p, CN Pv i, fun ys' σ' H' p' => ⟨n - (i + 1), by lia, rfl, hlt, p'.1, p'.2⟩, fun x H2 y => hs i x ys σ H H2 hlt hy (by lia) p y⟩
 ·have e : i = n := by lia
  subst e
  exact .inl ⟨hstop ys σ H p, by lia, hd ys σ H hy p⟩
theorem ZfS (hz : xs.length <= sizeLine) (Pv : Nat -> List V -> St -> Hp -> Prop) (h0 : Pv 0 [] σ H) (hl : ∀ i ys σ H, i <= xs.length -> Pv i ys σ H -> SqL K H a xs)
  (hs : ∀ i x ys σ H, xs[i]? = some x -> ys.length <= i -> ys.length < sizeLine -> Pv i ys σ H -> g x σ H fun σ2 H3 => tt σ2 H3 fun ok H4 => if ok = true then te σ2 H4 fun y H5 => ys.length < sizeLine /\ CN Pv i (ys ++ [y]) σ2 H5 else CN Pv i ys σ2 H4)
  (hd : ∀ ys σ H, ys.length <= xs.length -> Pv xs.length ys σ H -> ∀ p, H p = none -> Q (.ref p) (upd H p (.lst ys))) :
  ∃ W : Nat -> Nat -> List V -> St -> Hp -> Prop, (∃ m, W 0 m [] σ H) /\ CW (Itl K a) g tt te W Q := by
 refine ZkY xs.length hz Pv h0 (fun i ys σ H hi p => ⟨xs, xs[i], hl i ys σ H (Nat.le_of_lt hi) p, by simp [hi]⟩) (fun ys σ H p => ⟨xs, hl _ ys σ H (Nat.le_refl _) p, Nat.le_refl _⟩) (fun i x ys σ H H2 hi h1 h2 p y => ?_) hd
 obtain ⟨rfl, y⟩ := y
 exact hs i x ys σ _ (y xs (hl i ys σ _ (Nat.le_of_lt hi) p)) h1 h2 p
theorem cw_tup (hz : xs.length <= sizeLine) (Pv : Nat -> List V -> St -> Hp -> Prop) (h0 : Pv 0 [] σ H) (hl : ∀ i ys σ H, i <= xs.length -> Pv i ys σ H -> SqT K H a xs)
  (hs : ∀ i x ys σ H, xs[i]? = some x -> ys.length <= i -> ys.length < sizeLine -> Pv i ys σ H -> g x σ H fun σ2 H3 => tt σ2 H3 fun ok H4 => if ok = true then te σ2 H4 fun y H5 => ys.length < sizeLine /\ CN Pv i (ys ++ [y]) σ2 H5 else CN Pv i ys σ2 H4)
  (hd : ∀ ys σ H, ys.length <= xs.length -> Pv xs.length ys σ H -> ∀ p, H p = none -> Q (.ref p) (upd H p (.lst ys))) :
  ∃ W : Nat -> Nat -> List V -> St -> Hp -> Prop, (∃ m, W 0 m [] σ H) /\ CW (Itt K a) g tt te W Q := by
 refine ZkY xs.length hz Pv h0 (fun i ys σ H hi p => ⟨xs, xs[i], hl i ys σ H (Nat.le_of_lt hi) p, by simp [hi]⟩) (fun ys σ H p => ⟨xs, hl _ ys σ H (Nat.le_refl _) p, Nat.le_refl _⟩) (fun i x ys σ H H2 hi h1 h2 p y => ?_) hd
 obtain ⟨rfl, y⟩ := y
 exact hs i x ys σ _ (y xs (hl i ys σ _ (Nat.le_of_lt hi) p)) h1 h2 p
theorem Zdh {lo : Int} {n : Nat} (hz : n <= sizeLine) (Pv : Nat -> List V -> St -> Hp -> Prop) (h0 : Pv 0 [] σ H)
  (hs : ∀ i ys σ H, i < n -> ys.length <= i -> ys.length < sizeLine -> Pv i ys σ H -> g (.int (lo + i)) σ H fun σ2 H3 => tt σ2 H3 fun ok H4 => if ok = true then te σ2 H4 fun y H5 => ys.length < sizeLine /\ CN Pv i (ys ++ [y]) σ2 H5 else CN Pv i ys σ2 H4)
  (hd : ∀ ys σ H, ys.length <= n -> Pv n ys σ H -> ∀ p, H p = none -> Q (.ref p) (upd H p (.lst ys))) :
  ∃ W : Nat -> Nat -> List V -> St -> Hp -> Prop, (∃ m, W 0 m [] σ H) /\ CW (Itr lo n) g tt te W Q := by
 refine ZkY n hz Pv h0 (fun i ys σ H hi p => hi) (fun ys σ H p => Nat.le_refl _) (fun i x ys σ H H2 hi h1 h2 p y => ?_) hd
 obtain ⟨rfl, rfl⟩ := y
 exact hs i ys σ _ hi h1 h2 p
end
end L2
end
section
namespace L2
open PySem PySem.Spec PyProof.Rows
section
variable {σ : St} {H : Hp} {Q : VK} {v x y : V} {ta tb tc te : TE} {t u : TS} {c d : TT} {D' : Ends} {r : R2} {g : TG} {i j : Int} {n : Nat} {K : PySem.W.Frag}
theorem rd_var (e : σ[n]? = some (some v)) (h : Q v H) : tVar n σ H Q := ⟨v, e, h⟩
theorem rd_c (h : Q v H) : tC v σ H Q := h
theorem rd_op (h : ta σ H fun x H1 => tb σ H1 fun y H2 => r x y H2 Q) : tOp r ta tb σ H Q := h
theorem rd_un {r : V -> Hp -> VK -> Prop} (h : ta σ H fun x H1 => r x H1 Q) : tUn r ta σ H Q := h
theorem Zgb (h : t { D' with nx := u D' } σ H) : tSeq t u D' σ H := h
theorem Zhl (h : te σ H fun x H1 => g x σ H1 D'.nx) : tAsg te g D' σ H := h
theorem ZcO {R : St -> Hp -> Prop} (h : R (σ.set n (some v)) H) : Zdl n v σ H R := h
theorem Zla (h : te σ H D'.rt) : tRet te D' σ H := h
theorem Zl6 (h : te σ H fun _ H1 => D'.nx σ H1) : tDrop te D' σ H := h
theorem Zfw (h : D'.nx σ H) : Zj4 D' σ H := h
theorem rd_if (h : c σ H fun b H1 => if b = true then t D' σ H1 else u D' σ H1) : tIfS c t u D' σ H := h
theorem ZlF {R : Bool -> Hp -> Prop} (h : ta σ H fun x H' => ∃ k, x = .bl k /\ R k H') : ZgF ta σ H R := h
theorem rd_tb {R : Bool -> Hp -> Prop} (h : ta σ H fun x H' => ∃ k, x = .bl k /\ R k H') : tB ta σ H R := h
theorem rd_and {R : Bool -> Hp -> Prop} (h : c σ H fun b H1 => if b = true then d σ H1 R else R false H1) : tAnd c d σ H R := h
theorem rd_or {R : Bool -> Hp -> Prop} (h : c σ H fun b H1 => if b = true then R true H1 else d σ H1 R) : tOr c d σ H R := h
theorem rd_not {R : Bool -> Hp -> Prop} (h : c σ H fun b H1 => R (!b) H1) : tNot c σ H R := h
theorem ZlE {R : Bool -> Hp -> Prop} (h : R true H) : tTrue σ H R := h
theorem Zmb (h : ta σ H fun x H1 => ∃ c, x = .bl c /\ if c = true then tb σ H1 Q else Q (.bl false) H1) : tAndV ta tb σ H Q := h
theorem rd_orV (h : ta σ H fun x H1 => ∃ c, x = .bl c /\ if c = true then Q (.bl true) H1 else tb σ H1 Q) : tOrV ta tb σ H Q := h
theorem ZlS (h : ta σ H fun x H1 => ∃ c, x = .bl c /\ Q (.bl (!c)) H1) : tNotV ta σ H Q := h
theorem Zle (h : c σ H fun b H1 => if b = true then ta σ H1 Q else tb σ H1 Q) : tIf c ta tb σ H Q := h
theorem Zkj {r r' : R2} (h : ta σ H fun x H1 => tb σ H1 fun y H2 => r x y H2 fun z H3 => ∃ k, z = .bl k /\ (if k = true then tc σ H3 fun w' H4 => r' y w' H4 Q else Q (.bl false) H3)) : Zk7 r r' ta tb tc σ H Q := h
theorem rd_nil {R : List V -> Hp -> Prop} (h : R [] H) : tNil σ H R := h
theorem Zl8 {tr : TA} {R : List V -> Hp -> Prop} (h : ta σ H fun x H1 => tr σ H1 fun xs H2 => R (x :: xs) H2) : Zb6 ta tr σ H R := h
theorem rd_cb {rr : List V -> Hp -> VK -> Prop} {ta : TA} (h : ta σ H fun vs H1 => rr vs H1 Q) : tCB rr ta σ H Q := h
theorem ZfC {f : Int -> Int -> V} (h : Q (f i j) H) : rI0 f (.int i) (.int j) H Q := ⟨i, j, rfl, rfl, h⟩
theorem rd_I {C : Int -> Int -> Prop} {f : Int -> Int -> V} (hc : C i j) (h : Q (f i j) H) : rI C f (.int i) (.int j) H Q := ⟨i, j, rfl, rfl, hc, h⟩
theorem rd_U {f : Int -> V} (h : Q (f i) H) : rU f (.int i) H Q := ⟨i, rfl, h⟩
theorem ZiK (h : Q (.bl (decide (i = j))) H) : rEq (.int i) (.int j) H Q := ⟨rfl, by rw [ZfR, Bool.beq_eq_decide_eq]; exact h⟩
theorem Zlc (h : Q (.bl (!decide (i = j))) H) : rNe (.int i) (.int j) H Q := ⟨rfl, by rw [ZfR, Bool.beq_eq_decide_eq]; exact h⟩
theorem Zlf {a b : Str} (h : Q (.bl (decide (a = b))) H) : rEq (.str a) (.str b) H Q := ⟨rfl, by rw [ZfQ, Bool.beq_eq_decide_eq]; exact h⟩
theorem Zlb {a b : Str} (h : Q (.bl (!decide (a = b))) H) : rNe (.str a) (.str b) H Q := ⟨rfl, by rw [ZfQ, Bool.beq_eq_decide_eq]; exact h⟩
theorem Zci {b : Bool} {R : Bool -> Prop} (h : R b) : ∃ k, V.bl b = V.bl k /\ R k := ⟨b, rfl, h⟩
theorem rd_tup {ta : TA} (h : ta σ H fun xs H1 => xs.length <= sizeLine /\ ∀ p, H1 p = none -> Q (.ref p) (upd H1 p (.tup xs))) : tTup ta σ H Q := h
theorem rd_lst {ta : TA} (h : ta σ H fun xs H1 => xs.length <= sizeLine /\ ∀ p, H1 p = none -> Q (.ref p) (upd H1 p (.lst xs))) : tLst ta σ H Q := h
theorem Zcg {n : Nat} (h : n <= 1000) : n <= sizeLine := Nat.le_trans h (by decide)
theorem rd_ixT {p : Addr} {xs : List V} (h : H p = some (.tup xs)) (e : atI xs i = some v) (q : Q v H) : rIxT K (.ref p) (.int i) H Q := ⟨p, xs, i, v, rfl, rfl, SqT.of h, e, q⟩
theorem rd_ixL {p : Addr} {xs : List V} (h : H p = some (.lst xs)) (e : atI xs i = some v) (q : Q v H) : rIxL K (.ref p) (.int i) H Q := ⟨p, xs, i, v, rfl, rfl, SqL.of h, e, q⟩
theorem ZcL {p : Addr} {xs : List V} {k : Nat} {R : Hp -> Prop} (h : H p = some (.lst xs)) (e : ixN xs.length i = some k) (q : R (upd H p (.lst (xs.set k v)))) : Zmd (.ref p) (.int i) v H R := ⟨p, xs, i, k, rfl, rfl, h, e, q⟩
theorem Zl2 {to ti : TE} {ts : TSet} {R : St -> Hp -> Prop} (h : to σ H fun o H1 => ti σ H1 fun i H2 => ts o i v H2 fun H3 => R σ H3) : gSub to ti ts v σ H R := h
theorem ZbT {x : V} {T t : String} (h : tyN H x = some t) (hT : T ∈ ["int", "bool", "str", "tuple", "list", "dict"]) (q : Q (.bl (isi t T)) H) : rIsi [x, .ty T] H Q := ⟨x, T, t, rfl, h, hT, q⟩
theorem Zlw {a : Addr} {xs : List V} (h : H a = some (.tup xs)) : tyN H (.ref a) = some "tuple" := by simp only [tyN, h]
theorem Zid {a : Addr} {xs : List V} (h : H a = some (.lst xs)) : tyN H (.ref a) = some "list" := by simp only [tyN, h]
theorem Zj9 {rr : V -> Option Int -> Option Int -> Hp -> VK -> Prop} {tl th : TO} (h : te σ H fun x H1 => tl σ H1 fun l H2 => th σ H2 fun u H3 => rr x l u H3 Q) : tSl rr te tl th σ H Q := h
theorem ZiH {R : Option Int -> Hp -> Prop} (h : R none H) : ZdQ σ H R := h
theorem ZlP {R : Option Int -> Hp -> Prop} (h : ta σ H fun x H1 => ∃ i, x = .int i /\ R (some i) H1) : ZhL ta σ H R := h
theorem rd_int {R : Int -> Prop} (h : R i) : ∃ k, V.int i = V.int k /\ R k := ⟨i, rfl, h⟩
theorem rd_bm {T : String} {rr : V -> List V -> Hp -> VK -> Prop} {ta' : TA} (h : ta σ H fun x H1 => tyV K T x H1 /\ ta' σ H1 fun xs H2 => rr x xs H2 Q) : tBM K T rr ta ta' σ H Q := h
theorem rd_bm0 {T : String} {rr : V -> List V -> Hp -> VK -> Prop} (h : ta σ H fun x H1 => tyV K T x H1 /\ rr x [] H1 Q) : tBM0 K T rr ta σ H Q := h
theorem ZaV {l : Addr} {xs : List V} (h : H l = some (.lst xs)) (hz : xs.length < sizeLine) (q : Q .non (upd H l (.lst (xs ++ [y])))) : ZiT (.ref l) [y] H Q := ⟨l, xs, y, rfl, rfl, h, hz, q⟩
theorem Zl9 {LN : List Str} {fr : List Nat} {wi : TI} (h : wi σ H fun J H1 => ∃ W : Nat -> Nat -> List V -> St -> Hp -> Prop, (∃ m, W 0 m [] (Zdt LN fr σ) H1) /\ CW J g c te W Q) : Zj5 LN fr wi g c te σ H Q := h
noncomputable def itK (K : PySem.W.Frag) (R : It -> Hp -> Prop) (x : V) (H1 : Hp) : Prop := ∃ a, x = .ref a /\ (∃ xs, SqT K H1 a xs) /\ R (Itt K a) H1
noncomputable def ilK (K : PySem.W.Frag) (R : It -> Hp -> Prop) (x : V) (H1 : Hp) : Prop := ∃ a, x = .ref a /\ (∃ xs, SqL K H1 a xs) /\ R (Itl K a) H1
noncomputable def irK (R : It -> Hp -> Prop) (vs : List V) (H1 : Hp) : Prop := ∃ j : Int, vs = [.int j] /\ -(2 ^ 62) <= j /\ j < 2 ^ 62 /\ R (Itr 0 j.toNat) H1
theorem ZlX {R : It -> Hp -> Prop} {tl : TE} (h : tl σ H (itK K R)) : iTup K tl σ H R := h
theorem Zke {R : It -> Hp -> Prop} {tl : TE} (h : tl σ H (ilK K R)) : ZmF K tl σ H R := h
theorem ZlZ {R : It -> Hp -> Prop} {ta' : TA} (h : ta' σ H (irK R)) : ZmE ta' σ H R := h
theorem ZcZ {R : It -> Hp -> Prop} {a : Addr} {xs : List V} (h : SqL K H a xs) (q : R (Itl K a) H) : ilK K R (.ref a) H := ⟨a, rfl, ⟨xs, h⟩, q⟩
theorem ZcJ {R : It -> Hp -> Prop} {j : Int} (h1 : -(2 ^ 62) <= j) (h2 : j < 2 ^ 62) (q : R (Itr 0 j.toNat) H) : irK R [.int j] H := ⟨j, rfl, h1, h2, q⟩
theorem ZeC {tg : TGs} {a : Addr} {xs : List V} {R : St -> Hp -> Prop} (h : H a = some (.tup xs)) (hl : xs.length = n) (q : tg xs σ H R) : gTup K n tg (.ref a) σ H R := ⟨a, xs, rfl, SqT.of h, hl, q⟩
theorem Zkf {tg : TGs} {vs : List V} {R : St -> Hp -> Prop} (h : g v σ H fun σ' H' => tg vs σ' H' R) : gCons g tg (v :: vs) σ H R := ⟨v, vs, rfl, h⟩
theorem Zl3 {R : St -> Hp -> Prop} (h : R σ H) : gNil [] σ H R := ⟨rfl, h⟩
theorem rd_for {wi : TI} (h : wi σ H fun J H1 => ∃ W : Nat -> Nat -> St -> Hp -> Prop, (∃ m, W 0 m σ H1) /\ ∀ i m σ H, W i m σ H ->
 (J.stop i H /\ D'.nx σ H) \/ (J.go i H /\ ∃ N : St -> Hp -> Prop, (∀ σ' H', N σ' H' -> ∃ m', m' < m /\ W (i + 1) m' σ' H') /\ ∀ x H', J.yld i H x H' -> g x σ H' fun σ2 H2 => t { D' with nx := N, ct := N, bk := D'.nx } σ2 H2)) : tFor wi g t D' σ H := h
end
end L2
end
section
namespace L2
open PySem PySem.Spec PyProof.Rows
theorem bt_abs : bootBuiltins "abs" = some (.builtin "abs") := by decide +kernel
theorem Zbw : bootBuiltins "len" = some (.builtin "len") := by decide +kernel
theorem ZaD : bootBuiltins "isinstance" = some (.builtin "isinstance") := by decide +kernel
theorem bt_min : bootBuiltins "min" = some (.builtin "min") := by decide +kernel
theorem bt_all : bootBuiltins "all" = some (.builtin "all") := by decide +kernel
theorem ZeZ : bootBuiltins "int" = some (.type "int") := by decide +kernel
theorem Zg0 : bootBuiltins "bool" = some (.type "bool") := by decide +kernel
theorem Zb5 : bootBuiltins "tuple" = some (.type "tuple") := by decide +kernel
theorem ZfX : bootBuiltins "list" = some (.type "list") := by decide +kernel
theorem ZeY : bootBuiltins "str" = some (.type "str") := by decide +kernel
noncomputable def bkOk (N : List Str) (sc osc : Scope) (FN : List Str) (fr : List Nat) : Bool :=
 decide (sc.kind = .function) && sc.names.all (fun y => decide (y.2 ≠ .cell)) && sc.names.all (fun y => decide (y.2 = .local -> sc.names.lookup y.1 = some .local)) &&
 sc.names.all (fun y => decide (y.2 = .free -> osc.names.lookup y.1 = some .cell \/ osc.names.lookup y.1 = some .free)) &&
 FN.all (fun x => decide (osc.names.lookup x = some .cell \/ osc.names.lookup x = some .free)) && FN.all (fun x => decide (sc.names.lookup x = some .free)) && decide (FN.map some = fr.map fun j => N[j]?)
theorem ZdO {N : List Str} {sc osc : Scope} {LN FN : List Str} {fr : List Nat} (h : bkOk N sc osc FN fr = true) : BkScope N sc osc LN FN fr := by
 unfold bkOk at h
 simp only [Bool.and_eq_true, List.all_eq_true, decide_eq_true_eq] at h
 obtain ⟨⟨⟨⟨⟨⟨h1, h2⟩, h3⟩, h4⟩, h5⟩, h6⟩, h7⟩ := h
 exact ⟨h1, h2, h3, h4, h5, h6, h7⟩
section
variable {X : Cx}
noncomputable def rIxA (K : PySem.W.Frag) : R2 := fun x y H Q => rIxL K x y H Q \/ rIxT K x y H Q
theorem ix_any : IxR X (rIxA X.K) := ix_list.or ix_tup
theorem Zdo {K : PySem.W.Frag} {H : Hp} {p : Addr} {xs : List V} {i : Int} {v : V} {Q : VK} (h : H p = some (.tup xs)) (e : atI xs i = some v) (q : Q v H) : rIxA K (.ref p) (.int i) H Q := .inr (rd_ixT h e q)
theorem Zak {K : PySem.W.Frag} {H : Hp} {p : Addr} {xs : List V} {i : Int} {v : V} {Q : VK} (h : H p = some (.lst xs)) (e : atI xs i = some v) (q : Q v H) : rIxA K (.ref p) (.int i) H Q := .inl (rd_ixL h e q)
theorem Zar {α : Type} {xs : List α} {i : Int} {n : Nat} {v : α} (hi : i = (n : Int)) (h : xs[n]? = some v) : atI xs i = some v := by
 subst hi
 have hl : n < xs.length := (List.getElem?_eq_some_iff.mp h).1
 unfold atI ixN
 rw [if_pos (by lia), if_pos (by lia)]
 simpa using h
theorem Zhx {m : Nat} {i : Int} {n : Nat} (hi : i = (n : Int)) (h : n < m) : ixN m i = some n := by
 subst hi
 unfold ixN
 rw [if_pos (by lia), if_pos (by lia)]
 simp
theorem rd_ixR {K : PySem.W.Frag} {H : Hp} {x : V} {ds : List D} {i : Int} {n : Nat} {d : D} {Q : VK} (h : Rep H (.tup ds) x) (hi : i = (n : Int)) (e : ds[n]? = some d) (q : ∀ v, Rep H d v -> Q v H) : rIxA K x (.int i) H Q := by
 obtain ⟨a, xs, rfl, ha, r⟩ := Zbi h
 obtain ⟨v, ev, rv⟩ := r.get e
 exact Zdo ha (Zar hi ev) (q v rv)
theorem rd_ixI {K : PySem.W.Frag} {H : Hp} {x : V} {ds : List D} {i : Int} {n : Nat} {k : Int} {Q : VK} (h : Rep H (.tup ds) x) (hi : i = (n : Int)) (e : ds[n]? = some (.int k)) (q : Q (.int k) H) : rIxA K x (.int i) H Q :=
 rd_ixR h hi e fun v r => by rw [Zbr r]; exact q
noncomputable def rLen (K : PySem.W.Frag) : List V -> Hp -> VK -> Prop := fun xs H Q => ∃ x n, xs = [x] /\ LenV K x H n /\ Q (.int n) H
theorem ZjK : Zct X (.builtin "len") (rLen X.K) := ZkZ
theorem Zbk {K : PySem.W.Frag} {H : Hp} {p : Addr} {ys : List V} {Q : VK} (h : SqL K H p ys) (q : Q (.int ys.length) H) : rLen K [.ref p] H Q := ⟨_, _, rfl, .inl ⟨ys, h, rfl⟩, q⟩
noncomputable def rAbs : List V -> Hp -> VK -> Prop := fun xs H Q => ∃ i, xs = [.int i] /\ Q (.int (if i < 0 then -i else i)) H
theorem ZjN : Zct X (.builtin "abs") rAbs := Zk0
theorem rd_abs {H : Hp} {i : Int} {Q : VK} (q : Q (.int (if i < 0 then -i else i)) H) : rAbs [.int i] H Q := ⟨i, rfl, q⟩
noncomputable def rMin : List V -> Hp -> VK -> Prop := fun xs H Q => ∃ i j, xs = [.int i, .int j] /\ Q (.int (if j < i then j else i)) H
theorem ZjJ (hc : X.calm = true) : Zct X (.builtin "min") rMin := ZjI hc
theorem rd_min {H : Hp} {i j : Int} {Q : VK} (q : Q (.int (if j < i then j else i)) H) : rMin [.int i, .int j] H Q := ⟨i, j, rfl, q⟩
noncomputable def rInt : List V -> Hp -> VK -> Prop := fun xs H Q => (∃ i, xs = [.int i] /\ Q (.int i) H) \/ ∃ k, xs = [.bl k] /\ Q (.int (if k then 1 else 0)) H
theorem ZeV : Zct X (.type "int") rInt := ZjL
theorem Zl0 {H : Hp} {k : Bool} {Q : VK} (q : Q (.int (if k then 1 else 0)) H) : rInt [.bl k] H Q := .inr ⟨k, rfl, q⟩
noncomputable def ZiP (K : PySem.W.Frag) : List V -> Hp -> VK -> Prop := fun xs H Q => ∃ p ys, xs = [.ref p] /\ ((SqL K H p ys /\ ∀ l, H l = none -> Q (.ref l) (upd H l (.tup ys))) \/ (SqT K H p ys /\ Q (.ref p) H))
theorem ZjH : Zct X (.type "tuple") (ZiP X.K) := ZfU
theorem Zdn {K : PySem.W.Frag} {H : Hp} {p : Addr} {ys : List V} {Q : VK} (h : SqL K H p ys) (q : ∀ l, H l = none -> Q (.ref l) (upd H l (.tup ys))) : ZiP K [.ref p] H Q := ⟨p, ys, rfl, .inl ⟨h, q⟩⟩
theorem ZdS {n : Nat} (h : Nat.ble n 1000 = true) : n <= sizeLine := Zcg (Nat.le_of_ble_eq_true h)
end
section
variable {X : Cx} {K : PySem.W.Frag} {pos : Pos}
theorem k_ix (h : X.K = K) : IxR X (rIxA K) := h ▸ ix_any
theorem Zb9 (h : X.K = K) : Zct X (.builtin "len") (rLen K) := h ▸ ZjK
theorem Zds (h : X.K = K) : Zct X (.type "tuple") (ZiP K) := h ▸ ZjH
theorem k_sl (h : X.K = K) : SlR X (rSlL K) := h ▸ ZlA
theorem k_neL (h : X.K = K) (hu : X.A.units + 64 < cLine) : OpR X (compareOp .NotEq) (rNeL K) := h ▸ Zlj hu
theorem k_in (h : X.K = K) : OpR X (compareOp .In) (rIn K false) := h ▸ Zi5
theorem ZbB {tg l : Expr} {tl : TE} (h : X.K = K) (hl : PE X l tl) : PI X tg l (ZmF K tl) := h ▸ Zml hl
theorem Zhv {tg l : Expr} {tl : TE} (h : X.K = K) (hl : PE X l tl) : PI X tg l (iTup K tl) := h ▸ pi_tup hl
theorem Zen {es : List Expr} {k : Nat} {t : TGs} {n : Nat} (h : X.K = K) (hc : X.calm = true) (hg : PGs X es t)
  (hn : (assignEach es X.env).length = n := by rfl) (hst : (assignEach es X.env).findIdx? (·.1) = none := by rfl) : PG X (.Tuple es k pos) (gTup K n t) := h ▸ pg_tup hc hg hn hst
variable {o e : Expr} {es : List Expr} {to : TE} {t : TA} {name : Str} {apos cpos : Pos} {T id : String} {r : V -> List V -> Hp -> VK -> Prop}
theorem k_bm (h : X.K = K) (pa : PlainAttrs T) (slot : Slot T name id) (hty : typeOf (.builtin id) = pure (.type "method_descriptor")) (hm : MtR X id r) (ho : PE X o to) (ha : PA X (e :: es) t)
  (hbase : attributeBase o name X.env (eval o X.env) = eval o X.env := by rfl)
  (hfew : ((backTo cpos (starEach (e :: es) X.env)).all (fun x => !x.1) && (backToKw cpos (keywordEach [] X.env)).all (fun x => x.1.isSome)
   && decide ((e :: es).length + ([] : List Keyword).length + (if ([] : List Keyword).isEmpty then 0 else 1) < 30)) = true := by rfl)
  (hline : (apos.endLine == cpos.line) = true := by rfl) (hs : starEach (e :: es) X.env = (false, eval e X.env) :: starEach es X.env := by rfl) (hplain : (backTo cpos (starEach es X.env)).any (·.1) = false := by rfl) :
  PE X (.Call (.Attribute o name apos) (e :: es) [] cpos) (tBM K T r to t) := h ▸ pe_bm pa slot hty hm ho ha hbase hfew hline hs hplain
theorem k_bm0 (h : X.K = K) (pa : PlainAttrs T) (slot : Slot T name id) (hty : typeOf (.builtin id) = pure (.type "method_descriptor")) (hm : MtR X id r) (ho : PE X o to)
  (hbase : attributeBase o name X.env (eval o X.env) = eval o X.env := by rfl) (hline : (apos.endLine == cpos.line) = true := by rfl) : PE X (.Call (.Attribute o name apos) [] [] cpos) (tBM0 K T r to) := h ▸ pe_bm0 pa slot hty hm ho hbase hline
end
end L2
end
section
namespace L2
open PySem PySem.Spec PyProof.Rows
structure TopFn (K : PySem.W.Frag) (mg : Str -> Option Value) (x : Str) (st : Stmt) (ps : List Str) : Prop where
 ex : ∃ f fd, Fun K x x st f fd /\ mg x = some (.ref f) /\ Binds K fd ps []
section
variable {P : Program} {w : World} {K : PySem.W.Frag} {mg : Str -> Option Value} {base : Heap} {x : Str} {st : Stmt} {ps N : List Str} {sp : Sp} {k : Nat}
theorem TopFn.callee (T : TopFn K mg x st ps) (h : ∀ f fd, Fun K x x st f fd -> FnOk P w K mg base CX0 k f fd ps sp) : Callee P w K mg base x k ps sp := by
 obtain ⟨f, fd, F, hm, hb⟩ := T.ex
 exact ⟨f, fd, h f fd F, hm, F.kp, hb⟩
noncomputable def sp0 (b : Hp -> VK -> Prop) : Sp := fun vs H Q _ => vs = [] /\ b H Q
noncomputable def sp1 (b : V -> Hp -> VK -> Prop) : Sp := fun vs H Q _ => ∃ x, vs = [x] /\ b x H Q
noncomputable def sp2 (b : V -> V -> Hp -> VK -> Prop) : Sp := fun vs H Q _ => ∃ x y, vs = [x, y] /\ b x y H Q
noncomputable def sp3 (b : V -> V -> V -> Hp -> VK -> Prop) : Sp := fun vs H Q _ => ∃ x y z, vs = [x, y, z] /\ b x y z H Q
noncomputable def sp4 (b : V -> V -> V -> V -> Hp -> VK -> Prop) : Sp := fun vs H Q _ => ∃ x y z u, vs = [x, y, z, u] /\ b x y z u H Q
noncomputable def sp5 (b : V -> V -> V -> V -> V -> Hp -> VK -> Prop) : Sp := fun vs H Q _ => ∃ x y z u v, vs = [x, y, z, u, v] /\ b x y z u v H Q
theorem use0 {b : Hp -> VK -> Prop} {H : Hp} {Q : VK} {E : XK} (h : b H Q) : sp0 b [] H Q E := ⟨rfl, h⟩
theorem use1 {b : V -> Hp -> VK -> Prop} {x : V} {H : Hp} {Q : VK} {E : XK} (h : b x H Q) : sp1 b [x] H Q E := ⟨x, rfl, h⟩
theorem use2 {b : V -> V -> Hp -> VK -> Prop} {x y : V} {H : Hp} {Q : VK} {E : XK} (h : b x y H Q) : sp2 b [x, y] H Q E := ⟨x, y, rfl, h⟩
theorem use3 {b : V -> V -> V -> Hp -> VK -> Prop} {x y z : V} {H : Hp} {Q : VK} {E : XK} (h : b x y z H Q) : sp3 b [x, y, z] H Q E := ⟨x, y, z, rfl, h⟩
theorem use4 {b : V -> V -> V -> V -> Hp -> VK -> Prop} {x y z u : V} {H : Hp} {Q : VK} {E : XK} (h : b x y z u H Q) : sp4 b [x, y, z, u] H Q E := ⟨x, y, z, u, rfl, h⟩
theorem use5 {b : V -> V -> V -> V -> V -> Hp -> VK -> Prop} {x y z u v : V} {H : Hp} {Q : VK} {E : XK} (h : b x y z u v H Q) : sp5 b [x, y, z, u, v] H Q E := ⟨x, y, z, u, v, rfl, h⟩
noncomputable def ZgD (P : Program) (w : World) (K : PySem.W.Frag) (mg : Str -> Option Value) (base : Heap) (N : List Str) (x : Str) (st : Stmt) (f : Addr) (cdv : Value) (A : Around) (outer : List Env) (s : Shared) (H : Hp) (vs : List V) (Q : VK) (E : XK) : Prop :=
 ∃ t, PSs (cxOf CX0 P w K mg base N x (Zag st) f cdv A outer s H E).nox (Zay st) t /\ t { nx := fun _ H' => Q .non H', rt := Q } (Zc1 N vs) H
theorem TopFn.ok0 {b : Hp -> VK -> Prop} (T : TopFn K mg x st []) (S : FnScope N [] (Zag st))
  (h : ∀ (f : Addr) (cdv : Value) (A : Around) (outer : List Env) (s : Shared) (H : Hp) (Q : VK) (E : XK), Room k (A.deeper (envOfC x (Zag st) s.heap.objs.size f cdv)) -> b H Q -> ZgD P w K mg base N x st f cdv A outer s H [] Q E) : Callee P w K mg base x (k + 1) [] (sp0 b) :=
 T.callee fun f fd F => F.ok S (fun vs H Q E ⟨e, _⟩ => by rw [e]; rfl) fun cdv A outer s H vs Q E hr hsp => by
  obtain ⟨rfl, hb⟩ := hsp
  exact h f cdv A outer s H Q E hr hb
theorem TopFn.ok1 {a1 : Str} {b : V -> Hp -> VK -> Prop} (T : TopFn K mg x st [a1]) (S : FnScope N [a1] (Zag st))
  (h : ∀ (f : Addr) (cdv : Value) (A : Around) (outer : List Env) (s : Shared) (H : Hp) (v1 : V) (Q : VK) (E : XK), Room k (A.deeper (envOfC x (Zag st) s.heap.objs.size f cdv)) -> b v1 H Q -> ZgD P w K mg base N x st f cdv A outer s H [v1] Q E) : Callee P w K mg base x (k + 1) [a1] (sp1 b) :=
 T.callee fun f fd F => F.ok S (fun vs H Q E ⟨_, e, _⟩ => by rw [e]; rfl) fun cdv A outer s H vs Q E hr hsp => by
  obtain ⟨v1, rfl, hb⟩ := hsp
  exact h f cdv A outer s H v1 Q E hr hb
theorem TopFn.ok2 {a1 a2 : Str} {b : V -> V -> Hp -> VK -> Prop} (T : TopFn K mg x st [a1, a2]) (S : FnScope N [a1, a2] (Zag st))
  (h : ∀ (f : Addr) (cdv : Value) (A : Around) (outer : List Env) (s : Shared) (H : Hp) (v1 v2 : V) (Q : VK) (E : XK), Room k (A.deeper (envOfC x (Zag st) s.heap.objs.size f cdv)) -> b v1 v2 H Q -> ZgD P w K mg base N x st f cdv A outer s H [v1, v2] Q E) : Callee P w K mg base x (k + 1) [a1, a2] (sp2 b) :=
 T.callee fun f fd F => F.ok S (fun vs H Q E ⟨_, _, e, _⟩ => by rw [e]; rfl) fun cdv A outer s H vs Q E hr hsp => by
  obtain ⟨v1, v2, rfl, hb⟩ := hsp
  exact h f cdv A outer s H v1 v2 Q E hr hb
theorem TopFn.ok3 {a1 a2 a3 : Str} {b : V -> V -> V -> Hp -> VK -> Prop} (T : TopFn K mg x st [a1, a2, a3]) (S : FnScope N [a1, a2, a3] (Zag st))
  (h : ∀ (f : Addr) (cdv : Value) (A : Around) (outer : List Env) (s : Shared) (H : Hp) (v1 v2 v3 : V) (Q : VK) (E : XK), Room k (A.deeper (envOfC x (Zag st) s.heap.objs.size f cdv)) -> b v1 v2 v3 H Q -> ZgD P w K mg base N x st f cdv A outer s H [v1, v2, v3] Q E) : Callee P w K mg base x (k + 1) [a1, a2, a3] (sp3 b) :=
 T.callee fun f fd F => F.ok S (fun vs H Q E ⟨_, _, _, e, _⟩ => by rw [e]; rfl) fun cdv A outer s H vs Q E hr hsp => by
  obtain ⟨v1, v2, v3, rfl, hb⟩ := hsp
  exact h f cdv A outer s H v1 v2 v3 Q E hr hb
theorem TopFn.ok4 {a1 a2 a3 a4 : Str} {b : V -> V -> V -> V -> Hp -> VK -> Prop} (T : TopFn K mg x st [a1, a2, a3, a4]) (S : FnScope N [a1, a2, a3, a4] (Zag st))
  (h : ∀ (f : Addr) (cdv : Value) (A : Around) (outer : List Env) (s : Shared) (H : Hp) (v1 v2 v3 v4 : V) (Q : VK) (E : XK), Room k (A.deeper (envOfC x (Zag st) s.heap.objs.size f cdv)) -> b v1 v2 v3 v4 H Q -> ZgD P w K mg base N x st f cdv A outer s H [v1, v2, v3, v4] Q E) : Callee P w K mg base x (k + 1) [a1, a2, a3, a4] (sp4 b) :=
 T.callee fun f fd F => F.ok S (fun vs H Q E ⟨_, _, _, _, e, _⟩ => by rw [e]; rfl) fun cdv A outer s H vs Q E hr hsp => by
  obtain ⟨v1, v2, v3, v4, rfl, hb⟩ := hsp
  exact h f cdv A outer s H v1 v2 v3 v4 Q E hr hb
theorem TopFn.ok5 {a1 a2 a3 a4 a5 : Str} {b : V -> V -> V -> V -> V -> Hp -> VK -> Prop} (T : TopFn K mg x st [a1, a2, a3, a4, a5]) (S : FnScope N [a1, a2, a3, a4, a5] (Zag st))
  (h : ∀ (f : Addr) (cdv : Value) (A : Around) (outer : List Env) (s : Shared) (H : Hp) (v1 v2 v3 v4 v5 : V) (Q : VK) (E : XK), Room k (A.deeper (envOfC x (Zag st) s.heap.objs.size f cdv)) -> b v1 v2 v3 v4 v5 H Q -> ZgD P w K mg base N x st f cdv A outer s H [v1, v2, v3, v4, v5] Q E) : Callee P w K mg base x (k + 1) [a1, a2, a3, a4, a5] (sp5 b) :=
 T.callee fun f fd F => F.ok S (fun vs H Q E ⟨_, _, _, _, _, e, _⟩ => by rw [e]; rfl) fun cdv A outer s H vs Q E hr hsp => by
  obtain ⟨v1, v2, v3, v4, v5, rfl, hb⟩ := hsp
  exact h f cdv A outer s H v1 v2 v3 v4 v5 Q E hr hb
theorem Zbd {f : Addr} {cdv : Value} {A : Around} {outer : List Env} {s : Shared} {H : Hp} {vs : List V} {Q : VK} {E : XK} {t : TS} (σ : St) (hσ : Zc1 N vs = σ) (h : PSs (cxOf CX0 P w K mg base N x (Zag st) f cdv A outer s H E).nox (Zay st) t)
  (q : t { nx := fun _ H' => Q .non H', rt := Q } σ H) : ZgD P w K mg base N x st f cdv A outer s H vs Q E := ⟨t, h, by rw [hσ]; exact q⟩
end
end L2
namespace L2
open PySem PySem.Spec PyProof.Rows
theorem Zec {b : Bool} {A B : Prop} (h : b = false) (q : B) : if b = true then A else B := by subst h; exact iteF q
theorem ZdT {b : Bool} {A B : Prop} (h : b = true) (q : A) : if b = true then A else B := by subst h; exact iteT q
theorem ZdI {c A B : Prop} [Decidable c] (h : ¬ c) (q : B) : if decide c = true then A else B := by rw [decide_eq_false h]; exact iteF q
theorem Zfh {c A B : Prop} [Decidable c] (h : c) (q : A) : if decide c = true then A else B := by rw [decide_eq_true h]; exact iteT q
theorem ite_ny {c A B : Prop} [Decidable c] (h : ¬ c) (q : A) : if (!decide c) = true then A else B := by rw [decide_eq_false h]; exact iteT q
theorem ZaH {c A B : Prop} [Decidable c] (h : c -> A) (q : ¬ c -> B) : if decide c = true then A else B := by
 by_cases e : c
 ·exact Zfh e (h e)
 ·exact ZdI e (q e)
theorem Zed {c A B : Prop} [Decidable c] (h : ¬ c -> A) (q : c -> B) : if (!decide c) = true then A else B := by
 by_cases e : c
 ·exact iteNS e (q e)
 ·exact ite_ny e (h e)
noncomputable def ZgK (p : Int × Int) : D := .tup [.int p.1, .int p.2]
end L2
namespace L2
theorem Zc2 {n : Nat} (h : n <= 1000000) : n <= PySem.sizeLine := Nat.le_trans h (by rw [PySem.sizeLine_eq]; decide)
end L2
namespace L2
theorem ZmC {A B : Prop} (h : B) : if (!true) = true then A else B := iteF h
theorem iteNF {A B : Prop} (h : A) : if (!false) = true then A else B := iteT h
end L2
namespace L2
open PySem
theorem ZjC (ns : List Int) (lo hi : Option Int) : ∃ ms : List Int, cutV (ns.map V.int) lo hi = ms.map V.int /\ ms.length <= ns.length := by
 refine ⟨(ns.drop (HT.sIx (ns.map V.int).length 0 lo)).take (HT.sIx (ns.map V.int).length (ns.map V.int).length hi - HT.sIx (ns.map V.int).length 0 lo), ?_, ?_⟩
 ·unfold cutV
  rw [List.map_take, List.map_drop]
 ·rw [List.length_take, List.length_drop]
  lia
theorem ZdB {K : PySem.W.Frag} {H : Hp} {a : Addr} {xs : List V} {lo hi : Option Int} {Q : VK} (h : SqL K H a xs) (q : ∀ p, H p = none -> Q (.ref p) (upd H p (.lst (cutV xs lo hi)))) : rSlL K (.ref a) lo hi H Q := ⟨a, xs, rfl, h, q⟩
theorem Zhk {H : Hp} {l b : Addr} {xs zs : List V} {Q : VK} (h1 : H l = some (.lst xs)) (h2 : H b = some (.lst zs)) (hl : xs.length + zs.length <= sizeLine) (q : ∀ p, H p = none -> Q (.ref p) (upd H p (.lst (xs ++ zs)))) : rCat (.ref l) (.ref b) H Q := ⟨l, b, xs, zs, rfl, rfl, h1, h2, hl, q⟩
theorem Zhz {ns : List Int} {i : Nat} {x : V} (h : (ns.map V.int)[i]? = some x) : ∃ z, x = .int z /\ ns[i]? = some z := by
 rw [List.getElem?_map] at h
 obtain ⟨z, e, rfl⟩ := Option.map_eq_some_iff.mp h
 exact ⟨z, rfl, e⟩
theorem Zlv {H : Hp} {a b : Addr} {o u : HO} (h : H b = some u) (hn : H a = none) : upd H a o b = some u := by rw [Zaw (Zbn h hn)]; exact h
noncomputable def Zip (K : PySem.W.Frag) : Sp := sp1 fun x H Q => ∃ (a : Addr) (ns : List Int), x = .ref a /\ SqL K H a (ns.map V.int) /\ ns.length <= 63 /\ ∀ H', Q (.bl true) H'
theorem Zj8 {K : PySem.W.Frag} {H : Hp} {a : Addr} {ns : List Int} {E : XK} (hl : ns.length <= 63) (hS : SqL K H a (ns.map V.int)) : Zip K [.ref a] H (fun v _ => v = .bl true) E := ⟨_, rfl, a, ns, rfl, hS, hl, fun _ => rfl⟩
theorem Fun.law {P : Program} {w : World} {K : PySem.W.Frag} {mg : Str -> Option Value} {base : Heap} {st : Stmt} {f : Addr} {fd : FuncData} {N : List Str} {k : Nat} (F : Fun K "law" "law" st f fd) (S : FnScope N ["script"] (Zag st))
  (h : ∀ (cdv : Value) (A : Around) (outer : List Env) (s : Shared) (H : Hp) (a : Addr) (ns : List Int) (Q : VK) (E : XK), Room k (A.deeper (PyProof.Rows.envOfC "law" (Zag st) s.heap.objs.size f cdv)) -> SqL K H a (ns.map V.int) -> ns.length <= 63 -> (∀ H', Q (.bl true) H') ->
   ZgD P w K mg base N "law" st f cdv A outer s H [.ref a] Q E) : FnOk P w K mg base CX0 (k + 1) f fd ["script"] (Zip K) :=
 F.ok S (fun vs H Q E ⟨_, e, _⟩ => by rw [e]; rfl) fun cdv A outer s H vs Q E hr hsp => by
  obtain ⟨_, rfl, a, ns, rfl, h1, h2, h3⟩ := hsp
  exact h cdv A outer s H a ns Q E hr h1 h2 h3
end L2
namespace L2
theorem ten60 : (10 : Int) ^ (60 : Int).toNat = 1000000000000000000000000000000000000000000000000000000000000 := by decide +kernel
theorem Zlr : CPow 10 60 := ⟨by decide, by decide, by decide⟩
theorem ZjO {x : Int} (h : x.natAbs <= 10 ^ 70) : x.natAbs < 2 ^ 8000 := Nat.lt_of_le_of_lt h (by decide +kernel)
theorem ZeU {x y : Int} (h : x.natAbs <= 10 ^ 70) (h2 : y.natAbs <= 10 ^ 70) : CBig x y := ⟨ZjO h, ZjO h2⟩
theorem Zdi {x y : Int} (h : 0 < y) (h2 : y.natAbs <= 10 ^ 70) : ZmY x y := ⟨h, ZjO h2⟩
end L2
end
section
namespace L2
open PySem
noncomputable def bagL (l : Addr) (i m st c : Int) : List V := [.ref l, .int i, .int m, .int st, .int c]
structure BagAt (H : Hp) (b l : Addr) : Prop where
 ex : ∃ (xs : List Int) (i : Nat) (m st c : Int), H b = some (.lst (bagL l i m st c)) /\ H l = some (.lst (xs.map V.int)) /\ i <= xs.length /\ (0 <= m /\ m <= 10 ^ 60) /\ (0 <= st /\ st < 2147483647) /\ (∀ x ∈ xs, 0 <= x /\ x <= 10 ^ 60) /\ xs.length <= 63
noncomputable def BSame (b : Addr) (H H' : Hp) : Prop := ∀ a o, a ≠ b -> H a = some o -> H' a = some o
theorem BSame.refl (b : Addr) (H : Hp) : BSame b H H := fun _ _ _ h => h
theorem BSame.trans {b : Addr} {H H1 H2 : Hp} (x : BSame b H H1) (y : BSame b H1 H2) : BSame b H H2 := fun a o n h => y a o n (x a o n h)
theorem BSame.of {b : Addr} {H H' : Hp} (s : Same H H') : BSame b H H' := fun a o _ h => s a o h
theorem BSame.wr {b : Addr} {H : Hp} {o : HO} : BSame b H (upd H b o) := fun a u n h => by rw [Zaw n]; exact h
theorem BagAt.lst {H : Hp} {b l : Addr} (B : BagAt H b l) : ∃ xs, H b = some (.lst xs) := let ⟨_, _, _, _, _, h, _⟩ := B.ex; ⟨_, h⟩
theorem BSame.ts {b l : Addr} {H H' : Hp} (x : BSame b H H') (B : BagAt H b l) : TSame H H' := fun a xs e => by
 obtain ⟨ys, hb⟩ := B.lst
 refine x a _ (fun z => ?_) e
 subst z
 rw [hb] at e
 cases e
theorem BagAt.mono {H H' : Hp} {b l : Addr} (B : BagAt H b l) (s : Same H H') : BagAt H' b l := by
 obtain ⟨xs, i, m, st, c, h1, h2, r⟩ := B.ex
 exact ⟨xs, i, m, st, c, s _ _ h1, s _ _ h2, r⟩
theorem BagAt.wr {H : Hp} {b l q : Addr} {o : HO} (B : BagAt H b l) (h1 : b ≠ q) (h2 : l ≠ q) : BagAt (upd H q o) b l := by
 obtain ⟨xs, i, m, st, c, e1, e2, r⟩ := B.ex
 exact ⟨xs, i, m, st, c, by rw [Zaw h1]; exact e1, by rw [Zaw h2]; exact e2, r⟩
theorem BagAt.ne {H : Hp} {b l q : Addr} (B : BagAt H b l) (h : H q = none) : b ≠ q /\ l ≠ q := by
 obtain ⟨xs, i, m, st, c, e1, e2, r⟩ := B.ex
 exact ⟨Zbn e1 h, Zbn e2 h⟩
theorem BSame.wrNew {b q : Addr} {H H1 : Hp} {o : HO} (x : BSame b H H1) (h : H q = none) : BSame b H (upd H1 q o) := fun a u n e => by
 rw [Zaw (Zbn e h)]
 exact x a u n e
theorem BSame.free {b q : Addr} {H H1 : Hp} (x : BSame b H H1) (n : q ≠ b) (h : H1 q = none) : H q = none := by
  cases e : H q with
  | none => rfl
  | some o =>
    rw [x q o n e] at h
    cases h
theorem BSame.to {b : Addr} {H H1 H2 : Hp} (x : BSame b H H1) (y : Same H1 H2) : BSame b H H2 := x.trans (BSame.of y)
inductive drawB (x y : V) (H : Hp) (Q : VK) : Prop
 | mk (b l n) (_ : x = .ref b) (_ : y = .int n) (_ : 0 < n /\ n <= 10 ^ 65) (_ : BagAt H b l) (_ : ∀ r H', 0 <= r -> r < n -> BagAt H' b l -> BSame b H H' -> Q (.int r) H') : drawB x y H Q
noncomputable def Zcb : Sp := sp2 drawB
inductive Pr_number (x : V) (H : Hp) (Q : VK) : Prop
 | mk (b l) (_ : x = .ref b) (_ : BagAt H b l) (_ : ∀ r H', r.natAbs <= 10 ^ 60 -> BagAt H' b l -> BSame b H H' -> Q (.int r) H') : Pr_number x H Q
noncomputable def ZcD : Sp := sp1 (Pr_number)
inductive Pr_bag (K : PySem.W.Frag) (x : V) (H : Hp) (Q : VK) : Prop
 | mk (a : Addr) (ns : List Int) (_ : x = .ref a) (_ : SqL K H a (ns.map V.int)) (_ : ns.length <= 63) (_ : ∀ b l H', H b = none -> Same H H' -> BagAt H' b l -> Q (.ref b) H') : Pr_bag K x H Q
noncomputable def sp_bag (K : PySem.W.Frag) : Sp := sp1 (Pr_bag K)
theorem Zcv {H : Hp} : ∀ (ns : List Int), Reps H (ns.map D.int) (ns.map V.int)
 | [] => ZaT
 | n :: ns => Zau ZbZ (Zcv ns)
end L2
end
section
namespace L3
open PySem PyProof.Rows
class KOrd where
 kd : SortKind
 good : Keyed -> Prop
 kv : Keyed -> Int
noncomputable abbrev ZkE [KOrd] : SortKind := KOrd.kd
noncomputable def IntK [KOrd] (x : Keyed) : Prop := KOrd.good x
noncomputable def kvl [KOrd] (x : Keyed) : Int := KOrd.kv x
noncomputable def K [KOrd] (xs : Array Keyed) (i : Nat) : Int := match xs[i]? with
 | some q => kvl q
 | none => 0
class KLt [KOrd] (P : Program) (W : World) (A : Around) (E : Value -> Shared -> Prop) (z : Shared) : Prop where
 lt : ∀ {u : SortSt} {x y : Keyed} {Q : Option Bool -> SortSt -> Prop}, kindOf u = ZkE -> IntK x -> IntK y -> Q (some (decide (kvl x < kvl y))) u -> wpS (model P W) A E z (lt' x y) Q u
section
variable [KOrd]
end
section
variable [KOrd] {P : Program} {W : World} {A : Around} {E : Value -> Shared -> Prop} {z : Shared} [KLt P W A E z]
noncomputable def bey (left : Bool) (kv : Int) (arr : Array Keyed) (base i : Nat) : Bool := if left then decide (K arr (base + i) < kv) else !decide (kv < K arr (base + i))
end
end L3
end
section
namespace L3
open PySem PyProof.Rows
variable [KOrd]
section
variable {a b out : List Keyed} {ia ib : Nat}
end
section
variable {P : Program} {W : World} {A : Around} {E : Value -> Shared -> Prop} {z : Shared} [KLt P W A E z]
structure Fr (u v : SortSt) : Prop where
 kind : kindOf v = kindOf u
 arr : arrOf v = arrOf u
 pend : pendingOf v = pendingOf u
 failed : failedOf v = failedOf u
end
section
variable {a b out : Array Keyed} {ia ib : Nat}
end
section
variable {P : Program} {W : World} {A : Around} {E : Value -> Shared -> Prop} {z : Shared} [KLt P W A E z]
end
end L3
end
section
namespace L3
open PySem PyProof.Rows
variable [KOrd]
section
variable {a b out : List Keyed} {na nb : Nat}
end
section
variable {a b out : Array Keyed} {na nb : Nat}
end
section
variable {P : Program} {W : World} {A : Around} {E : Value -> Shared -> Prop} {z : Shared} [KLt P W A E z]
end
end L3
end
section
namespace L3
open PySem PyProof.Rows
variable [KOrd]
noncomputable def SegS (xs : Array Keyed) (lo n : Nat) : Prop := ∀ i j, lo <= i -> i <= j -> j < lo + n -> K xs i <= K xs j
section
variable {P : Program} {W : World} {A : Around} {E : Value -> Shared -> Prop} {z : Shared} [KLt P W A E z]
end
end L3
end
section
namespace L3
open PySem PyProof.Rows
variable [KOrd]
section
variable {P : Program} {W : World} {A : Around} {E : Value -> Shared -> Prop} {z : Shared} [KLt P W A E z] {a₀ : Array Keyed} {p : Array (Nat × Nat × Nat)}
end
end L3
end
section
namespace L3
open PySem PyProof.Rows
variable [KOrd]
section
variable {P : Program} {W : World} {A : Around} {E : Value -> Shared -> Prop} {z : Shared} [KLt P W A E z] {a₀ : Array Keyed} {p : Array (Nat × Nat × Nat)}
end
noncomputable def Runs (xs : Array Keyed) : Nat -> List (Nat × Nat × Nat) -> Nat -> Prop
 | lo, [], hi => lo = hi
 | lo, r :: rs, hi => r.1 = lo /\ 0 < r.2.1 /\ SegS xs lo r.2.1 /\ Runs xs (lo + r.2.1) rs hi
end L3
end
section
namespace L3
open PySem PyProof.Rows
variable [KOrd]
section
variable {u v : SortSt} {sa n : Nat}
end
section
variable {P : Program} {W : World} {A : Around} {E : Value -> Shared -> Prop} {z : Shared} [KLt P W A E z] {a₀ : Array Keyed}
end
end L3
end
section
namespace L2
open PySem PySem.Spec PyProof.Rows
section
variable {P : Program} {W : World} {A : Around} {E : Value -> Shared -> Prop} {z : Shared}
end
theorem Un.track' {fs ex : List Addr} {H H1 : Hp} {h h1 : Heap} {a : Addr} {o : HO} (u : Un fs ex H H1 h h1) (hne : ∀ b o, h.get? b = some o -> b ≠ a) (hn : H a = none) : Un fs ex H (upd H1 a o) h h1 where
 keep := u.keep
 slot := u.slot
 free := fun b ob q n hx => by
  rw [Zaw (hne b ob q)]
  exact u.free b ob q n hx
 there := u.there
 tups := fun b xs q => by
  rw [Zaw (fun z => by rw [z, hn] at q; cases q)]
  exact u.tups b xs q
 frzs := fun b ob x q => by
  rw [Zaw (fun z => by rw [z, hn] at q; cases q)]
  exact u.frzs b ob x q
 tbls := fun b ps q => by
  rw [Zaw (fun z => by rw [z, hn] at q; cases q)]
  exact u.tbls b ps q
theorem ObjOk.there {P : Program} {w : World} {H : Hp} {h : Heap} {a : Addr} {o : HO} (x : ObjOk P w H h a o) : ∃ ob, h.get? a = some ob := by
 cases o with
 | lst xs => obtain ⟨_, _, _, _, e⟩ := x; exact ⟨_, e⟩
 | tup xs => obtain ⟨_, _, _, ob, e, _⟩ := x; exact ⟨_, e⟩
 | dK kvs => obtain ⟨_, _, _, _, o, _, _, e, _⟩ := x; exact ⟨_, e⟩
 | dT kvs => obtain ⟨_, _, _, _, o, _, _, e, _⟩ := x; exact ⟨_, e⟩
 | set S n => obtain ⟨o, _, _, _, e, _⟩ := x; exact ⟨_, e⟩
 | ins C dx fs => obtain ⟨_, _, _, e, _⟩ := x; exact ⟨_, e⟩
 | own y => exact x
 | xd fs => obtain ⟨_, ⟨o, _, _, e, _⟩, _⟩ := x; exact ⟨_, e⟩
 | rng lo hi => obtain ⟨_, _, _, e⟩ := x; exact ⟨_, e⟩
 | frz ob u => obtain ⟨e, _⟩ := x; exact ⟨_, e⟩
 | tbl ps => exact ⟨_, x⟩
 | met f y => exact ⟨_, x⟩
 | ext φ => obtain ⟨_, e, _⟩ := x; exact e
theorem KV.at' {κ : Type} : ∀ {kvs : List (κ × V)} {vs : List (κ × Value)} {j : Nat} {k : κ} {x : Value}, KV kvs vs -> vs[j]? = some (k, x) -> ∃ p, kvs[j]? = some p /\ p.1 = k
  | _, _, j, k, x, .nil, e => by simp at e
  | p :: _, q :: _, 0, k, x, .cons r _, e => by
    simp at e
    subst e
    exact ⟨p, rfl, r.1⟩
  | p :: ps, q :: qs, j + 1, k, x, .cons _ t, e => by
    obtain ⟨p', e1, e2⟩ := KV.at' (j := j) (kvs := ps) (vs := qs) t (by simpa using e)
    exact ⟨p', by simpa using e1, e2⟩
end L2
namespace L2
open PySem
end L2
namespace L2
open PySem
theorem Zl7 {td ty : TE} {σ : St} {H : Hp} {Q : VK} (h : td σ H fun x H1 => ty σ H1 fun y H2 => ∃ a v, x = .ref a /\ DGet H2 a y (some v) /\ Q v H2) : tDGet td ty σ H Q := h
end L2
namespace L2
open PySem
end L2
end
section
namespace L3
open PySem
end L3
end
section
namespace L3
open PySem PyProof.Rows
section
variable {P : Program} {w : World} {A : Around} {E : Value -> Shared -> Prop} {s : Shared}
end
section
variable {P : Program} {w : World} {A : Around} {R : Result -> Shared -> Prop} {I : Addr} {fp wr : List Addr} {G : Array GenState -> Array GenState -> Prop} {n : Nat} {Pv : Nat -> Value -> Prop} {St : Nat -> Shared -> Prop}
end
section
variable {P : Program} {w : World} {A : Around} {E : Value -> Shared -> Prop} {s : Shared}
end
end L3
end
section
namespace L3
open PySem
section
variable {M : Model} {A : Around} {E : Value -> Shared -> Prop} {s : Shared}
end
end L3
end
section
namespace L3
open PySem
section
variable {P : Program} {w : World} {A : Around} {E : Value -> Shared -> Prop} {s : Shared} {it a : Addr} {S : Int -> Bool} {led : Bool} {o : Obj} {es : Array (Int × Value)} {ep : Nat} {t : SetTable}
end
end L3
end
section
namespace L3
open PySem PyProof.Rows
section
variable {P : Program} {w : World} {A : Around} {E : Value -> Shared -> Prop} {s : Shared}
noncomputable def dd (ns : List Int) : List Int := firstMet (fun i => ns.getD i 0) ns.length
end
end L3
end
section
namespace L2
open PySem PySem.Spec PyProof.Rows
noncomputable def rIsN : R2 := fun x y H Q => y = .non /\ Q (.bl (decide (x = .non))) H
noncomputable def rNotN : R2 := fun x y H Q => y = .non /\ Q (.bl (!decide (x = .non))) H
theorem ZeI {X : Cx} : OpR X (compareOp .Is) rIsN := op_isN
theorem ZfH {X : Cx} : OpR X (compareOp .IsNot) rNotN := Zmt
theorem rd_isN {x : V} {H : Hp} {Q : VK} (q : Q (.bl (decide (x = .non))) H) : rIsN x .non H Q := ⟨rfl, q⟩
theorem ZlT {x : V} {H : Hp} {Q : VK} (q : Q (.bl (!decide (x = .non))) H) : rNotN x .non H Q := ⟨rfl, q⟩
theorem Zex (n d k : Nat) : HT.sIx n d (some (k : Int)) = min k n := by
 simp only [HT.sIx]
 rw [if_neg (by lia)]
 simp
theorem cut_to {xs : List V} {k : Nat} (h : k <= xs.length) : cutV xs none (some (k : Int)) = xs.take k := by
 unfold cutV
 have e1 : HT.sIx xs.length 0 none = 0 := rfl
 have e2 : HT.sIx xs.length xs.length (some (k : Int)) = k := by
  rw [Zex]
  lia
 rw [e1, e2]
 simp
theorem ZcV {xs : List V} {k : Nat} (h : k <= xs.length) : cutV xs (some (k : Int)) none = xs.drop k := by
 unfold cutV
 have e1 : HT.sIx xs.length 0 (some (k : Int)) = k := by
  rw [Zex]
  lia
 have e2 : HT.sIx xs.length xs.length none = xs.length := rfl
 rw [e1, e2]
 simp [List.take_of_length_le]
section
variable {X : Cx}
end
section
variable {X : Cx}
end
theorem Zkd {K : PySem.W.Frag} {H : Hp} {a b : Addr} {xs : List V} {ds : List D} {Q : VK} (h1 : SqL K H a xs) (r : Reps H ds xs) (pd : D.pls ds = true) (hd : D.deps ds <= 40) (h2 : H b = some (.lst [])) (q : Q (.bl (!decide (ds = []))) H) : rNeL K (.ref a) (.ref b) H Q := by
 refine ⟨a, b, xs, [], ds, [], rfl, rfl, h1, SqL.of h2, r, ZaT, pd, rfl, hd, ?_⟩
 have e : eqD (.tup ds) (.tup []) = decide (ds = []) := by
  by_cases h : ds = []
  ·subst h
   rw [Zcl]
   simp
  ·rw [Za3 (by intro z; cases z; exact h rfl)]
   simp [h]
 rw [e]
 exact q
end L2
end
section
namespace L2
open PySem PySem.Spec PyProof.Rows
noncomputable def Its (x : Str) : It := ⟨fun i _ => i < x.cps.size, fun i H v H' => H' = H /\ ∃ c, x.cps[i]? = some c /\ v = .str ⟨#[c]⟩, fun i _ => x.cps.size <= i⟩
theorem Zj2 {P : Program} {w : World} {K : PySem.W.Frag} {tg : Expr} (x : Str) (t : Tok) (it : Addr) : Turn P w K tg (Its x) [it] it (fun i h => h.IsStrIter it "str_ascii_iterator" x t i) where
 mem := by simp
 obj := fun i h st b hb => by
  have e : b = it := by simpa using hb
  subst e
  obtain ⟨o, e, c, d⟩ := st
  exact ⟨o, e, fun v z => by rw [d] at z; cases z⟩
 keep := fun i h h' st k => by
  obtain ⟨o, e, c, d⟩ := st
  exact ⟨o, k it (by simp) o e, c, d⟩
 item := by
  intro X hP hw hK hc i pins s σ H E I hf st hg
  subst hP hw hK
  have hg : i < x.cps.size := hg
  obtain ⟨f0, f1, f2, f3, f4, f5⟩ := hf it (by simp)
  have hx : x.cps[i]? = some x.cps[i] := Array.getElem?_eq_getElem hg
  refine wpAny_pyNext_ascii_item st hx fun h' st' sb => ?_
  have I1 : Inv X pins σ H { s with heap := h', toks := s.toks + 1 } := I.turned (t' := s.toks + 1) (fun b o hb e => (sb.2 b hb).trans e) f0 f1 f3 f4 f5
  obtain ⟨o, e, c, d⟩ := id st'
  exact ⟨_, rfl, ZkS (s := { s with heap := h', toks := s.toks + 1 }) e c d (by decide) ⟨.str ⟨#[x.cps[i]]⟩, H, I1, ⟨_, rfl⟩, ⟨rfl, _, hx, rfl⟩, st', fun b hb => (hf b hb).1⟩⟩
 done := by
  intro X hP hw hK hc i pins s σ H E I hf st hg
  subst hP hw hK
  have hg : x.cps.size <= i := hg
  obtain ⟨f0, f1, f2, f3, f4, f5⟩ := hf it (by simp)
  exact wpAny_pyNext_ascii_end (I.ok.hd hc) st (Array.getElem?_eq_none hg) fun h' eb => ⟨rfl, I.turned (t' := s.toks) (fun b o hb e => eb b o hb e) f0 f1 f3 f4 f5⟩
 self := fun _ _ _ _ _ st h => wpAny_pyIter_striter_ascii st h
section
variable {X : Cx} {tg : Expr}
noncomputable def iStr (tl : TE) : TI := fun σ H R => tl σ H fun x H1 => ∃ z, x = .str z /\ z.cps.all (· < 128) = true /\ R (Its z) H1
theorem pi_str {l : Expr} {tl : TE} (hl : PE X l tl) : PI X tg l (iStr tl) := by
 intro pins s σ H R I h
 refine thn (hl pins s σ H _ I h) fun v s1 ⟨x, H1, I1, r1, q1⟩ => ?_
 obtain ⟨z, e, ha, q⟩ := q1
 subst e
 obtain ⟨t, rfl⟩ := r1
 refine wpAny_pyIter_ascii ha ?_
 refine ⟨s1.heap.objs.size, [s1.heap.objs.size], _, _, H1, rfl, I1.kept (t' := s1.toks) fun b o e => Heap.get?_push_of_some _ e, Zj2 z t _, ⟨_, Heap.get?_push_size _ rfl, rfl, rfl⟩, fun b hb => ?_, q⟩
 have e : b = s1.heap.objs.size := by simpa using hb
 subst e
 exact I1.fpOk (Nat.le_refl _) (I1.hok.fresh (Nat.le_refl _))
end
theorem ZfA {σ : St} {H : Hp} {R : It -> Hp -> Prop} {tl : TE} (h : tl σ H fun x H1 => ∃ z, x = .str z /\ z.cps.all (· < 128) = true /\ R (Its z) H1) : iStr tl σ H R := h
theorem ZmJ {z : Str} {g : TG} {tb : TS} {D' : Ends} {σ : St} {H : Hp} (Pv : Nat -> St -> Hp -> Prop) (h0 : Pv 0 σ H)
  (hs : ∀ i c σ H, z.cps[i]? = some c -> Pv i σ H -> g (.str ⟨#[c]⟩) σ H fun σ2 H2 => tb { D' with nx := Pv (i + 1), ct := Pv (i + 1), bk := D'.nx } σ2 H2) (hd : ∀ σ H, Pv z.cps.size σ H -> D'.nx σ H) :
  ∃ W : Nat -> Nat -> St -> Hp -> Prop, (∃ m, W 0 m σ H) /\ ∀ i m σ H, W i m σ H ->
   ((Its z).stop i H /\ D'.nx σ H) \/ ((Its z).go i H /\ ∃ N : St -> Hp -> Prop, (∀ σ' H', N σ' H' -> ∃ m', m' < m /\ W (i + 1) m' σ' H') /\ ∀ x H', (Its z).yld i H x H' -> g x σ H' fun σ2 H2 => tb { D' with nx := N, ct := N, bk := D'.nx } σ2 H2) := by
 refine ⟨fun i m σ H => m = z.cps.size - i /\ i <= z.cps.size /\ Pv i σ H, ⟨z.cps.size, by simp, Nat.zero_le _, h0⟩, ?_⟩
 rintro i m σ H ⟨rfl, hi, p⟩
 by_cases hlt : i < z.cps.size
 ·refine .inr ⟨hlt, Pv (i + 1), fun σ' H' p' => ⟨z.cps.size - (i + 1), by lia, rfl, hlt, p'⟩, ?_⟩
  rintro x H' ⟨rfl, c, hc, rfl⟩
  exact hs i c σ _ hc p
 ·have e : i = z.cps.size := by lia
  subst e
  exact .inl ⟨Nat.le_refl _, hd σ H p⟩
theorem ZjB {z : Str} {g : TG} {tt : TT} {te : TE} {Q : VK} {σ : St} {H : Hp} (hz : z.cps.size <= sizeLine) (Pv : Nat -> List V -> St -> Hp -> Prop) (h0 : Pv 0 [] σ H)
  (hs : ∀ i c ys σ H, z.cps[i]? = some c -> ys.length <= i -> ys.length < sizeLine -> Pv i ys σ H -> g (.str ⟨#[c]⟩) σ H fun σ2 H3 => tt σ2 H3 fun ok H4 => if ok = true then te σ2 H4 fun y H5 => ys.length < sizeLine /\ CN Pv i (ys ++ [y]) σ2 H5 else CN Pv i ys σ2 H4)
  (hd : ∀ ys σ H, ys.length <= z.cps.size -> Pv z.cps.size ys σ H -> ∀ p, H p = none -> Q (.ref p) (upd H p (.lst ys))) :
  ∃ W : Nat -> Nat -> List V -> St -> Hp -> Prop, (∃ m, W 0 m [] σ H) /\ CW (Its z) g tt te W Q := by
 refine ZkY z.cps.size hz Pv h0 (fun i ys σ H hi p => hi) (fun ys σ H p => Nat.le_refl _) (fun i x ys σ H H2 hi h1 h2 p y => ?_) hd
 obtain ⟨rfl, c, hc, rfl⟩ := y
 exact hs i c ys σ _ hc h1 h2 p
end L2
end
section
namespace L2
open PySem PySem.Spec PyProof.Rows
noncomputable def rLstD : List V -> Hp -> VK -> Prop := fun xs H Q => ∃ (a : Addr) (kvs : List (Key × V)), xs = [.ref a] /\ H a = some (.dK kvs) /\ ∀ p, H p = none -> Q (.ref p) (upd H p (.lst (kvs.map fun q => kV q.1)))
theorem ZmB {k : Key} {v : Value} (h : ZgP k v = true) : RelV (kV k) v := by
  cases k with
  | inl i =>
    obtain ⟨t, rfl⟩ := Value.isInt_shape (k := i) (v := v) h
    exact ⟨t, rfl⟩
  | inr x =>
    obtain ⟨t, rfl⟩ := Value.isStrOf_shape (x := x) (v := v) h
    exact ⟨t, rfl⟩
theorem Zh8 : ∀ {xs : List V} {us : List Value}, us.length = xs.length -> (∀ (j : Nat) u, us[j]? = some u -> ∃ x, xs[j]? = some x /\ RelV x u) -> Vals xs us
  | [], [], _, _ => .nil
  | x :: xs, [], h, _ => by cases h
  | [], u :: us, h, _ => by cases h
  | x :: xs, u :: us, h, k => by
    obtain ⟨y, e, r⟩ := k 0 u rfl
    cases e
    exact .cons r (Zh8 (by simpa using h) fun j v e => by
      obtain ⟨y', e', r'⟩ := k (j + 1) v (by simpa using e)
      exact ⟨y', by simpa using e', r'⟩)
theorem ZdX {X : Cx} (hc : X.calm = true) : Zct X (.type "list") rLstD := by
  intro pins s σ H xs us Q I r h
  obtain ⟨a, kvs, rfl, ha, q⟩ := h
  obtain ⟨u, rfl, ru⟩ := Zfm r
  cases ru
  obtain ⟨hz, hS, vs, kv, hd⟩ := (show ObjOk X.prog X.w H s.heap a (.dK kvs) from I.hok a _ ha)
  obtain ⟨ep, hat⟩ := hd.dictAt
  have hlen : kvs.length = vs.length := Paired.length kv
  refine PySem.W.kdl_call (PySem.W.kdl_dict (knd := Zby X.prog X.w) (kvs := vs) (ep := ep) hS) (I.ok.hd hc) hat (by lia) fun h' tk acc c' keep hat' hacc => ?_
  have hal : acc.toList.length = vs.length := by rw [Array.length_toList]; exact hacc.1
  have hv : Vals (kvs.map fun q => kV q.1) acc.toList := Zh8 (by rw [List.length_map]; lia) fun j u e => by
    obtain ⟨k, x, e1, e2⟩ := hacc.2 j u (by rw [<- Array.getElem?_toList]; exact e)
    obtain ⟨p, ep1, ep2⟩ := KV.at' kv e1
    exact ⟨kV k, by rw [List.getElem?_map, ep1, Option.map_some, ep2], ZmB e2⟩
  have hne : ∀ b o, s.heap.get? b = some o -> b ≠ s.heap.objs.size := fun b o e => Nat.ne_of_lt (Heap.lt_size e)
  have hH : H s.heap.objs.size = none := by
    cases e : H s.heap.objs.size with
    | none => rfl
    | some o =>
      obtain ⟨o', e'⟩ := (I.hok _ o e).there
      exact absurd rfl (hne _ o' e')
  refine ⟨.ref s.heap.objs.size, upd H s.heap.objs.size (.lst (kvs.map fun q => kV q.1)), I.un (Un.track' (Un.kept keep) hne hH) (HOk.track (I.hok.kept keep) hH ⟨by rw [List.length_map]; lia, acc.toList, c', hv, ?_⟩), rfl, q _ hH⟩
  simpa using hat'
end L2
end
section
namespace L2
open PySem PySem.Spec PyProof.Rows
theorem Zem {X : Cx} {K : PySem.W.Frag} {tg l : Expr} {tl : TE} (h : X.K = K) (hl : PE X l tl) : PI X tg l (iStr tl) := pi_str hl
theorem Zlk {X : Cx} {K : PySem.W.Frag} (h : X.K = K) : OpR X (binaryOp .Add) (rCatT K) := h ▸ Zi6
noncomputable def lettersL : List (Str × Str) := [("put", "pi"), ("copy", "pp"), ("plus", "ppp"), ("less", "ppp"), ("times", "ppc"), ("take", "p"), ("tell", "p"), ("jump", "t"), ("zero", "pt"), ("below", "pt"), ("call", "pfq"), ("back", "p")]
noncomputable def lettersKV : List (Key × V) := lettersL.map fun q => (Sum.inr q.1, V.str q.2)
noncomputable def ZjV (boxes many ns : Int) (c : Str) (n : Int) : Prop := (c = "p" -> 0 <= n /\ n < boxes) /\ (c = "t" -> 0 <= n /\ n < many) /\ (c = "f" -> 0 <= n /\ n < ns) /\ (c = "c" -> -99 <= n /\ n <= 99) /\ n.natAbs <= 10 ^ 60
noncomputable def Zh3 (sg : List (Int × Int)) (boxes many : Int) (ps : List D) (c : Str) (d : D) : Prop :=
 (c ≠ "q" /\ ∃ n, d = .int n /\ ZjV boxes many sg.length c n) \/
 (c = "q" /\ ∃ (args : List Int) (f : Nat) (tk : Int × Int), ps[1]? = some (.int f) /\ sg[f]? = some tk /\ d = .tup (args.map D.int) /\ (args.length : Int) = tk.1 /\ ∀ q ∈ args, 0 <= q /\ q < boxes)
structure RowG (sg : List (Int × Int)) (boxes many : Int) (w ls : Str) (ps : List D) : Prop where
 tab : (w, ls) ∈ lettersL
 len : ps.length = ls.cps.size
 parts : ∀ (i c : Nat), ls.cps[i]? = some c -> ∃ d, ps[i]? = some d /\ Zh3 sg boxes many ps ⟨#[c]⟩ d
noncomputable def rowD (r : Str × List D) : D := .tup (.str r.1 :: r.2)
noncomputable def ZjT (sg : List (Int × Int)) (boxes many : Int) (r : Str × List D) : Prop := ∃ ls, RowG sg boxes many r.1 ls r.2
structure RowsOk (sg : List (Int × Int)) (boxes many : Int) (rs : List (Str × List D)) : Prop where
 len : (rs.length : Int) = many
 all : ∀ r ∈ rs, ZjT sg boxes many r
 last : ∃ r, rs[rs.length - 1]? = some r /\ (r.1 = "back" \/ r.1 = "jump")
structure SgOk (sg : List (Int × Int)) : Prop where
 pos : 0 < sg.length
 few : sg.length <= 6
 first : ∃ bx, sg[0]? = some (0, bx)
 all : ∀ q ∈ sg, 0 <= q.1 /\ q.1 <= 4 /\ q.1 <= q.2 /\ 1 <= q.2 /\ q.2 <= 8
theorem Zfd : ∀ q ∈ lettersL, q.2.cps.all (· < 128) = true := by decide +kernel
noncomputable def qOk (q : Str × Str) (i : Nat) : Bool := decide ((⟨#[q.2.cps.getD i 0]⟩ : Str) = "q" -> i = 2 /\ 1 < q.2.cps.size /\ (⟨#[q.2.cps.getD 1 0]⟩ : Str) = "f")
theorem q_all : (lettersL.all fun q => (List.range q.2.cps.size).all (qOk q)) = true := by decide +kernel
theorem q_at {w ls : Str} (h : (w, ls) ∈ lettersL) {i c : Nat} (e : ls.cps[i]? = some c) (hq : (⟨#[c]⟩ : Str) = "q") : i = 2 /\ ∃ c', ls.cps[1]? = some c' /\ (⟨#[c']⟩ : Str) = "f" := by
 have hi := (Array.getElem?_eq_some_iff.mp e).1
 have h1 := List.all_eq_true.mp q_all _ h
 have h2 := List.all_eq_true.mp h1 i (List.mem_range.mpr hi)
 have hc : ls.cps.getD i 0 = c := by
  rw [Array.getElem?_eq_getElem hi] at e
  simp [Array.getD, hi]
  exact Option.some.inj e
 unfold qOk at h2
 rw [decide_eq_true_eq] at h2
 dsimp only at h2
 rw [hc] at h2
 obtain ⟨a, b, d⟩ := h2 hq
 exact ⟨a, _, Array.getElem?_eq_getElem b, by simpa [Array.getD, b] using d⟩
theorem ZeN {w ls : Str} (h : (w, ls) ∈ lettersL) : valV lettersKV (Sum.inr w : Key) = some (V.str ls) := by
 have hk : ∀ q ∈ lettersL, (lettersL.find? fun p => decide (p.1 = q.1)) = some q := by decide +kernel
 have e := hk _ h
 unfold valV lettersKV
 rw [List.find?_map]
 have e2 : ((fun kv : Key × V => decide (kv.1 = Sum.inr w)) ∘ fun q : Str × Str => ((Sum.inr q.1 : Key), V.str q.2)) = fun p : Str × Str => decide (p.1 = w) := by
  funext p
  simp
 rw [e2, e]
 rfl
theorem Zgh : ∀ (more acc : List (Key × V)), ((acc ++ more).map (·.1)).Nodup -> Zeb acc more = acc ++ more
  | [], acc, _ => by rw [List.append_nil]; rfl
  | q :: more, acc, h => by
    have hv : valV acc q.1 = none := by
      cases e : valV acc q.1 with
      | none => rfl
      | some v =>
        have hm := Zlt e
        rw [List.map_append, List.map_cons] at h
        exact absurd rfl ((List.nodup_append.mp h).2.2 q.1 hm q.1 List.mem_cons_self)
    show Zeb (putK acc q.1 q.2) more = acc ++ q :: more
    rw [Zko _ hv, Zgh more (acc ++ [(q.1, q.2)]) (by simpa using h)]
    simp
theorem ZfJ : Zeb [] lettersKV = lettersKV := Zgh lettersKV [] (by decide +kernel)
theorem Zha {σ : St} : ∀ (l : List (V × V)) {H : Hp} {Q : List (V × V) -> Hp -> Prop}, Q l H -> Zhb (l.map fun q => (tC q.1, tC q.2)) σ H Q
 | [], _, _, h => h
 | (x, y) :: l, H, Q, h => Zha l (Q := fun ps H3 => Q ((x, y) :: ps) H3) h
noncomputable abbrev PDef := Int × Int × List (Str × List D)
inductive DefAt (av : List Addr) (H : Hp) (d : PDef) (v : V) : Prop
 | mk (t q ys) (_ : v = .ref t) (_ : H t = some (.tup [.int d.1, .int d.2.1, .ref q])) (_ : H q = some (.lst ys)) (_ : q ∉ av) (_ : Reps H (d.2.2.map rowD) ys) : DefAt av H d v
noncomputable def DefsAt (av : List Addr) (H : Hp) : List PDef -> List V -> Prop
 | [], vs => vs = []
 | d :: ds, vs => ∃ v r, vs = v :: r /\ DefAt av H d v /\ DefsAt av H ds r
theorem DefAt.by {av : List Addr} {H H' : Hp} {d : PDef} {v : V} (h : DefAt av H d v) (s : ∀ a xs, a ∉ av -> H a = some (.lst xs) -> H' a = some (.lst xs)) (t : TSame H H') : DefAt av H' d v := by
 obtain ⟨a, q, ys, rfl, h1, h2, n, r⟩ := h
 exact ⟨a, q, ys, rfl, t _ _ h1, s _ _ n h2, n, r.mono t⟩
theorem DefsAt.by {av : List Addr} {H H' : Hp} (s : ∀ a xs, a ∉ av -> H a = some (.lst xs) -> H' a = some (.lst xs)) (t : TSame H H') : ∀ {ds : List PDef} {vs : List V}, DefsAt av H ds vs -> DefsAt av H' ds vs
  | [], _, h => h
  | d :: ds, vs, h => by
    obtain ⟨v, r, e, h1, h2⟩ := h
    exact ⟨v, r, e, h1.by s t, DefsAt.by s t h2⟩
theorem DefsAt.bs {av : List Addr} {b l : Addr} {H H' : Hp} {ds : List PDef} {vs : List V} (h : DefsAt av H ds vs) (s : BSame b H H') (B : BagAt H b l) (m : b ∈ av) : DefsAt av H' ds vs :=
 h.by (fun a xs n e => s _ _ (fun z => n (z ▸ m)) e) (s.ts B)
theorem DefsAt.mono {av : List Addr} {H H' : Hp} {ds : List PDef} {vs : List V} (h : DefsAt av H ds vs) (s : Same H H') : DefsAt av H' ds vs := h.by (fun a xs _ e => s _ _ e) s.ts
theorem DefsAt.wr {av : List Addr} {H : Hp} {q : Addr} {xs : List V} {o : HO} {ds : List PDef} {vs : List V} (h : DefsAt av H ds vs) (m : q ∈ av) (e : H q = some (.lst xs)) : DefsAt av (upd H q o) ds vs :=
 h.by (fun a ys n z => by rw [Zaw (fun w : a = q => n (w ▸ m))]; exact z) (TSame.wr fun zs z => by rw [e] at z; cases z)
theorem DefsAt.append {av : List Addr} {H : Hp} : ∀ {ds es : List PDef} {vs ws : List V}, DefsAt av H ds vs -> DefsAt av H es ws -> DefsAt av H (ds ++ es) (vs ++ ws)
  | [], es, vs, ws, h, r => by
    have h : vs = [] := h
    rw [h]
    exact r
  | d :: ds, es, vs, ws, h, r => by
    obtain ⟨v, q, rfl, h1, h2⟩ := h
    exact ⟨v, q ++ ws, rfl, h1, DefsAt.append h2 r⟩
theorem DefsAt.length {av : List Addr} {H : Hp} : ∀ {ds : List PDef} {vs : List V}, DefsAt av H ds vs -> ds.length = vs.length
  | [], vs, h => by
    have h : vs = [] := h
    rw [h]; rfl
  | d :: ds, vs, h => by
    obtain ⟨v, q, rfl, h1, h2⟩ := h
    simp [DefsAt.length h2]
theorem DefsAt.get {av : List Addr} {H : Hp} : ∀ {ds : List PDef} {vs : List V} {i : Nat} {v : V}, DefsAt av H ds vs -> vs[i]? = some v -> ∃ d, ds[i]? = some d /\ DefAt av H d v
  | [], vs, i, v, h, e => by
    have h : vs = [] := h
    rw [h] at e
    simp at e
  | d :: ds, vs, 0, v, h, e => by
    obtain ⟨u, q, rfl, h1, h2⟩ := h
    simp at e
    subst e
    exact ⟨d, rfl, h1⟩
  | d :: ds, vs, i + 1, v, h, e => by
    obtain ⟨u, q, rfl, h1, h2⟩ := h
    obtain ⟨d', e1, e2⟩ := DefsAt.get h2 (i := i) (v := v) (by simpa using e)
    exact ⟨d', by simpa using e1, e2⟩
theorem le3 {w ls : Str} (h : (w, ls) ∈ lettersL) : ls.cps.size <= 3 := by
 have hk : ∀ q ∈ lettersL, q.2.cps.size <= 3 := by decide +kernel
 exact hk _ h
theorem ZeA {c : TT} {t u t2 : TS} {D' : Ends} {σ : St} {H : Hp} (I : St -> Hp -> Prop) (hI : ∀ σ' H', I σ' H' -> t2 D' σ' H') (h : ∀ N : St -> Hp -> Prop, (∀ σ' H', I σ' H' -> N σ' H') -> tIfS c t u { D' with nx := N } σ H) : tSeq (tIfS c t u) t2 D' σ H :=
 h (t2 D') hI
structure ProgOk (sg : List (Int × Int)) (ds : List PDef) : Prop where
 sgs : SgOk sg
 heads : ds.map (fun d => (d.1, d.2.1)) = sg
 rows : ∀ d ∈ ds, ∃ many, 1 <= many /\ many <= 30 /\ RowsOk sg d.2.1 many d.2.2
end L2
end
section
namespace L2
open PySem PySem.Spec PyProof.Rows
section
variable {X : Cx} {C : Addr} {x m : Str} {k : Nat} {ps : List Str} {sp : Sp} {o e : Expr} {es : List Expr} {ta : TE} {t : TA} {apos pos p : Pos}
theorem Zmp {n : Int} (hg : Gl X x) (h : ∃ t, X.mg x = some (.int n t)) (hd : (x == ("__debug__" : Str)) = false := by decide) : PE X (.Name x pos) (tC (.int n)) := by
 obtain ⟨t, h⟩ := h
 exact ZeE hg h ⟨t, rfl⟩ hd
end
section
variable {P : Program} {w : World} {K : PySem.W.Frag} {mg : Str -> Option Value} {base : Heap} {x m qual : Str} {st : Stmt} {ps N : List Str} {sp : Sp} {k : Nat} {C : Addr}
end
section
variable {σ : St} {H : Hp} {Q : VK} {K : PySem.W.Frag} {ta tv : TE} {f m : Str} {C a dx : Addr} {fs : List (Str × V)} {v : V}
end
end L2
end
section
namespace L2
open PySem PySem.Spec PyProof.Rows
noncomputable def CTup (K : PySem.W.Frag) (a : Addr) (xs : List V) : Prop := ∃ (o : Obj) (its : Array Value) (n : Nat), K.lookup a = some o /\ o.cls = .type "tuple" /\ o.data = .seq its n /\ its.size <= sizeLine /\ Vals xs its.toList
theorem CTup.sq {K : PySem.W.Frag} {a : Addr} {xs : List V} (h : CTup K a xs) (H : Hp) : SqT K H a xs := .inr h
noncomputable def entC (w : World) (q : Str × Tok × Addr) : DictEntry := ⟨hashStr w q.1, .str q.1 q.2.1, .ref q.2.2⟩
noncomputable def CDat (K : PySem.W.Frag) (w : World) (a : Addr) (tb : List (Str × List Str)) : Prop :=
 (a == sysModules) = false /\ (tb.map (·.1)).Nodup /\ ∃ (rows : List (Str × Tok × Addr)) (ep : Nat), K.lookup a = some { cls := .type "dict", data := .dict (rows.map (entC w)).toArray ep } /\
  Paired (fun (p : Str × List Str) (q : Str × Tok × Addr) => p.1 = q.1 /\ CTup K q.2.2 (p.2.map V.str)) tb rows
theorem ZmS {K : PySem.W.Frag} {tb : List (Str × List Str)} {rows : List (Str × Tok × Addr)} (h : Paired (fun (p : Str × List Str) (q : Str × Tok × Addr) => p.1 = q.1 /\ CTup K q.2.2 (p.2.map V.str)) tb rows) (x : Str) :
    (tb.lookup x = none /\ valueAt (rows.map fun q => ((Sum.inr q.1 : Key), Value.ref q.2.2)) (Sum.inr x) = none) \/ ∃ ks a, tb.lookup x = some ks /\ CTup K a (ks.map V.str) /\ valueAt (rows.map fun q => ((Sum.inr q.1 : Key), Value.ref q.2.2)) (Sum.inr x) = some (.ref a) := by
  induction h with
  | nil => exact .inl ⟨rfl, rfl⟩
  | @cons p q ps qs hq t ih =>
    obtain ⟨p1, p2⟩ := p
    obtain ⟨q1, qt, qa⟩ := q
    obtain ⟨e, c⟩ := hq
    dsimp only at e c
    subst e
    by_cases z : x = p1
    · subst z
      refine .inr ⟨p2, qa, by simp [List.lookup], c, ?_⟩
      simp [valueAt]
    · have z1 : (x == p1) = false := by simpa using z
      have z2 : ¬ p1 = x := fun w => z w.symm
      have e1 : List.lookup x ((p1, p2) :: ps) = List.lookup x ps := by simp [List.lookup, z1]
      have e2 : valueAt (((p1, qt, qa) :: qs).map fun q => ((Sum.inr q.1 : Key), Value.ref q.2.2)) (Sum.inr x) = valueAt (qs.map fun q => ((Sum.inr q.1 : Key), Value.ref q.2.2)) (Sum.inr x) := by
        simp [valueAt, z2]
      rw [e1, e2]
      exact ih
theorem ZhF {P : Program} {w : World} : ∀ (rows : List (Str × Tok × Addr)), Pairs (Zby P w) (rows.map (entC w)) (rows.map fun q => ((Sum.inr q.1 : Key), Value.ref q.2.2))
  | [] => .nil
  | q :: rows => by
    rw [List.map_cons, List.map_cons]
    exact .cons (Zdr P w q.1 q.2.1) rfl (ZhF rows)
theorem CDat.dict {P : Program} {w : World} {K : PySem.W.Frag} {h : Heap} {a : Addr} {tb : List (Str × List Str)} (c : CDat K w a tb) (hk : K.In h) : ∃ vs, h.DictOf (Zby P w) a vs /\
  ∀ x, (tb.lookup x = none /\ valueAt vs (Sum.inr x) = none) \/ ∃ ks b, tb.lookup x = some ks /\ CTup K b (ks.map V.str) /\ valueAt vs (Sum.inr x) = some (.ref b) := by
 obtain ⟨hs, nd, rows, ep, hl, pr⟩ := c
 refine ⟨rows.map fun q => ((Sum.inr q.1 : Key), Value.ref q.2.2), ⟨_, _, ep, hk a _ hl, ⟨rfl, rfl, rfl⟩, rfl, ?_, by simpa using ZhF rows, ?_⟩, ZmS pr⟩
 ·intro e he
  have he : e ∈ rows.map (entC w) := by simpa using he
  obtain ⟨q, hq, rfl⟩ := List.mem_map.mp he
  exact ⟨.inr q.1, Zdr P w q.1 q.2.1, rfl⟩
 ·have e : rows.map (·.1) = tb.map (·.1) := by
   clear hl nd
   induction pr with
   | nil => rfl
   | cons hq t ih => rw [List.map_cons, List.map_cons, ih, hq.1]
  rw [List.map_map]
  have : (rows.map (·.1)).Nodup := e ▸ nd
  have e2 : rows.map ((fun x : Key × Value => x.1) ∘ fun q : Str × Tok × Addr => ((Sum.inr q.1 : Key), Value.ref q.2.2)) = (rows.map (·.1)).map Sum.inr := by rw [List.map_map]; rfl
  rw [e2]
  exact List.Pairwise.map _ (fun a b z z' => z (Sum.inr.inj z')) this
noncomputable def IsCD (K : PySem.W.Frag) (w : World) (mg : Str -> Option Value) (x : Str) (tb : List (Str × List Str)) : Prop := ∃ a, mg x = some (.ref a) /\ CDat K w a tb
noncomputable def tCD (K : PySem.W.Frag) (w : World) (tb : List (Str × List Str)) : TE := fun _ H Q => ∀ a, CDat K w a tb -> Q (.ref a) H
noncomputable def Zlh (K : PySem.W.Frag) (w : World) (tb : List (Str × List Str)) : R2 := fun x y H Q => ∃ a k, x = .str k /\ y = .ref a /\ CDat K w a tb /\ Q (.bl (!(tb.lookup k).isSome)) H
noncomputable def Zk8 (K : PySem.W.Frag) (w : World) (tb : List (Str × List Str)) (td ty : TE) : TE := fun σ H Q => td σ H fun x H1 => ty σ H1 fun y H2 => ∃ a k ks, x = .ref a /\ CDat K w a tb /\ y = .str k /\ tb.lookup k = some ks /\ ∀ b, (∀ H', SqT K H' b (ks.map V.str)) -> Q (.ref b) H2
section
variable {X : Cx} {o i e value : Expr} {pos pos' tpos : Pos} {td ty tv : TE} {x : Str} {K : PySem.W.Frag} {w : World} {tb : List (Str × List Str)}
theorem pe_cd (hg : Gl X x) (h : IsCD K w X.mg x tb) (hd : (x == ("__debug__" : Str)) = false := by decide) : PE X (.Name x pos) (tCD K w tb) := by
 obtain ⟨a, h, r⟩ := h
 intro pins s σ H Q I q
 exact ZeE (v := .ref a) hg h rfl hd pins s σ H Q I (q a r)
theorem ZkC (hK : X.K = K) (hw : X.w = w) : OpR X (compareOp .NotIn) (Zlh K w tb) := by
 subst hK; subst hw
 intro pins s σ H x y v u Q I rx ry h
 obtain ⟨a, k, rfl, rfl, c, q⟩ := h
 obtain rfl : u = Value.ref a := ry
 obtain ⟨vs, dd, hf⟩ := c.dict (P := X.prog) I.kIn
 refine wpAny_notIn_of (ZhW (k := Sum.inr k) rx) c.1 dd.mapOf ?_
 refine ⟨.bl (!(tb.lookup k).isSome), H, I.tok _, ?_, q⟩
 rcases hf k with ⟨e1, e2⟩ | ⟨ks, b, e1, _, e2⟩
 ·rw [e1, e2]; rfl
 ·rw [e1, e2]; rfl
theorem Zkw (hK : X.K = K) (hw : X.w = w) (ho : PE X o td) (hi : PE X i ty) (hs : NoSl i) : PE X (.Subscript o i pos) (Zk8 K w tb td ty) := by
 subst hK; subst hw
 intro pins s σ H Q I h
 refine Zih PySem.F.slot_dict_getitem.lookup hs (thn (ho pins s σ H _ I h) fun u s1 ⟨x, H1, I1, rx, q1⟩ => thn (hi pins s1 σ H1 _ I1 q1) fun iv s2 ⟨y, H2, I2, ry, a, k, ks, ex, c, ey, l, q2⟩ => ?_)
 subst ex; subst ey
 obtain rfl : u = Value.ref a := rx
 obtain ⟨vs, dd, hf⟩ := c.dict (P := X.prog) I2.kIn
 refine ⟨dd.typeIs, ?_⟩
 rcases hf k with ⟨e1, e2⟩ | ⟨ks', b, e1, ct, e2⟩
 ·rw [l] at e1; cases e1
 ·rw [l] at e1; cases e1
  exact wpAny_getItem_of (ZhW (k := Sum.inr k) ry) dd.mapOf e2 ⟨.ref b, H2, I2.tok _, rfl, q2 b fun H' => ct.sq H'⟩
end
theorem rd_cd {K : PySem.W.Frag} {w : World} {tb : List (Str × List Str)} {σ : St} {H : Hp} {Q : VK} (h : ∀ a, CDat K w a tb -> Q (.ref a) H) : tCD K w tb σ H Q := h
theorem Zkc {K : PySem.W.Frag} {w : World} {tb : List (Str × List Str)} {a : Addr} {k : Str} {H : Hp} {Q : VK} (c : CDat K w a tb) (h : Q (.bl (!(tb.lookup k).isSome)) H) : Zlh K w tb (.str k) (.ref a) H Q := ⟨a, k, rfl, rfl, c, h⟩
noncomputable def cdK (K : PySem.W.Frag) (w : World) (tb : List (Str × List Str)) (Q : VK) (x y : V) (H2 : Hp) : Prop := ∃ a k ks, x = .ref a /\ CDat K w a tb /\ y = .str k /\ tb.lookup k = some ks /\ ∀ b, (∀ H', SqT K H' b (ks.map V.str)) -> Q (.ref b) H2
theorem Zkk {K : PySem.W.Frag} {w : World} {tb : List (Str × List Str)} {td ty : TE} {σ : St} {H : Hp} {Q : VK} (h : td σ H fun x H1 => ty σ H1 fun y H2 => cdK K w tb Q x y H2) : Zk8 K w tb td ty σ H Q := h
theorem cdK_of {K : PySem.W.Frag} {w : World} {tb : List (Str × List Str)} {a : Addr} {k : Str} {ks : List Str} {H : Hp} {Q : VK} (c : CDat K w a tb) (l : tb.lookup k = some ks) (h : ∀ b, (∀ H', SqT K H' b (ks.map V.str)) -> Q (.ref b) H) : cdK K w tb Q (.ref a) (.str k) H := ⟨a, k, ks, rfl, c, rfl, l, h⟩
theorem Zkg {td ty : TE} {σ : St} {H : Hp} {Q : VK} (h : td σ H fun x H1 => ∃ a, x = .ref a /\ IsD H1 a /\ ty σ H1 fun y H2 => ∃ o, DGet H2 a y o /\ Q (o.getD .non) H2) : Zk6 td ty σ H Q := h
noncomputable def partsT : List (Str × List Str) := [("put", ["box", "number"]), ("copy", ["box", "box"]), ("plus", ["box", "box", "box"]), ("less", ["box", "box", "box"]), ("times", ["box", "box", "factor"]), ("take", ["box"]), ("tell", ["box"]), ("jump", ["row"]), ("zero", ["box", "row"]), ("below", ["box", "row"]), ("call", ["box", "def", "boxes"]), ("back", ["box"])]
end L2
end
section
namespace L2
open PySem PySem.Spec PyProof.Rows
section
variable {X : Cx}
noncomputable def rSlS : V -> Option Int -> Option Int -> Hp -> VK -> Prop := fun x lo hi H Q => ∃ z, x = .str z /\ z.length <= sizeLine /\ Q (.str (Txt.slice z lo hi)) H
theorem Zi0 {v : Value} {o : Option Int} (h : IsPart v o) : ∃ l : Option (Int × Tok), v = partValue l /\ l.map (·.1) = o := by
 cases h with
 | none => exact ⟨none, rfl, rfl⟩
 | int i t => exact ⟨some (i, t), rfl, rfl⟩
theorem ZcY : SlR X rSlS := by
 intro pins s σ H x v vl vu lo hi sl Q I rx hs pl pu h
 obtain ⟨z, rfl, hz, q⟩ := h
 obtain ⟨t, rfl⟩ := rx
 obtain ⟨l, rfl, rfl⟩ := Zi0 pl
 obtain ⟨u, rfl, rfl⟩ := Zi0 pu
 refine ⟨"str", _, PySem.F.slot_str_getitem.lookup, typeIs_str s z t, ?_⟩
 refine wpAny_getItem_str_slice (l := l) (u := u) (st := none) hs (by decide) ?_
 have fin : ∀ t' tk, EP X pins σ Q (.str (Txt.slice z (l.map (·.1)) (u.map (·.1))) t') { s with toks := tk } := fun t' tk => ⟨.str _, H, I.tok _, ⟨_, rfl⟩, q⟩
 exact post_val_or_str ⟨Nat.le_trans (Txt.slice_le z _ _) hz, fun t' k => fin t' k⟩
noncomputable def repS (z : Str) (n : Int) : Str := if n < 1 then Str.empty else if (n == 1 || z.length == 0) = true then z else ⟨(List.replicate n.toNat z.cps).foldl (· ++ ·) #[]⟩
noncomputable def rRepS : R2 := fun x y H Q => ∃ z n, x = .str z /\ y = .int n /\ -1000 <= n /\ n <= 1000 /\ z.length <= 1000 /\ (repS z n).length <= sizeLine /\ Q (.str (repS z n)) H
theorem ZeG : OpR X (binaryOp .Mult) rRepS := by
 intro pins s σ H x y v u Q I rx ry h
 obtain ⟨z, n, rfl, rfl, h1, h2, h3, h4, q⟩ := h
 obtain ⟨t, rfl⟩ := rx
 obtain ⟨t', rfl⟩ := ry
 have hp : ¬ n < 1 -> z.length * n.toNat <= 1000000 := fun _ => by
  have := Nat.mul_le_mul h3 (show n.toNat <= 1000 by lia)
  lia
 refine PySem.P.mul_str (by rw [decide_eq_false (by lia), decide_eq_false (by lia)]; rfl) (fun a _ b => ?_) (fun a _ => ?_) ?_
 ·have h5 : ((z.length : Int)) <= (2 ^ 63 - 1) / n := by
   rw [Int.le_ediv_iff_mul_le (by lia)]
   have h6 := hp a
   have h7 : (z.length : Int) * n = ((z.length * n.toNat : Nat) : Int) := by rw [Int.natCast_mul, Int.toNat_of_nonneg (by lia)]
   rw [h7]
   lia
  lia
 ·have h6 := hp a
  first
   | exact decide_eq_false (by lia)
   | (unfold Builtin.Str.tooLong; rw [decide_eq_false]; rw [sizeLine_eq]; lia)
   | (simp [Builtin.Str.tooLong]; lia)
 ·unfold repS at h4 q
  by_cases a : n < 1
  ·rw [if_pos a] at h4 q ⊢
   exact ⟨h4, .str _, H, I.tok _, ⟨_, rfl⟩, q⟩
  ·rw [if_neg a] at h4 q ⊢
   by_cases b : (n == 1 || z.length == 0) = true
   ·rw [if_pos b] at h4 q ⊢
    exact ⟨.str _, H, I, ⟨_, rfl⟩, q⟩
   ·rw [if_neg b] at h4 q ⊢
    exact ⟨h4, .str _, H, I.tok _, ⟨_, rfl⟩, q⟩
theorem Zii : ∀ {us : List Value} {zs : List Str}, Vals (zs.map V.str) us -> StrsAre us zs
  | [], [], _ => .nil
  | [], z :: zs, h => by cases h
  | u :: us, [], h => by cases h
  | u :: us, z :: zs, h => by
    cases h with
    | cons r1 r2 =>
      obtain ⟨t, rfl⟩ := r1
      exact .cons z t (Zii r2)
noncomputable def Zkn (K : PySem.W.Frag) : V -> List V -> Hp -> VK -> Prop := fun x vs H Q => ∃ z a zs, x = .str z /\ vs = [.ref a] /\ SqL K H a ((zs : List Str).map V.str) /\ z.length <= 16 /\ (zs.map (·.length)).sum + zs.length <= 1048576 /\ Q (.str (Txt.join z zs)) H
theorem Zmx : MtR X "str.join" (Zkn X.K) := by
 intro pins s σ H x vs v us Q I rx rv h
 obtain ⟨z, a, zs, rfl, rfl, ha, hl, hw, q⟩ := h
 obtain ⟨t, rfl⟩ := rx
 obtain ⟨u, rfl, ru⟩ := rv.one
 cases ru
 obtain ⟨its, vx, ht, _⟩ := I.list ha
 exact join_listW ht.isList (by simpa using Zii vx) hl hw fun t' k => ⟨.str _, H, I.tok _, ⟨_, rfl⟩, q⟩
end
end L2
end
section
namespace L2
open PySem PySem.Spec PyProof.Rows
section
variable {X : Cx}
noncomputable def rAll (K : PySem.W.Frag) : List V -> Hp -> VK -> Prop := fun xs H Q => ∃ (a : Addr) (bs : List Bool), xs = [.ref a] /\ SqL K H a (bs.map V.bl) /\ Q (.bl (bs.all id)) H
theorem ZjQ (bs : List Bool) : (List.range bs.length).all (fun i => bs.getD i false) = bs.all id := by
 rw [Bool.eq_iff_iff, List.all_eq_true, List.all_eq_true]
 constructor
 ·intro h b hb
  obtain ⟨j, hj, rfl⟩ := List.getElem_of_mem hb
  have := h j (List.mem_range.mpr hj)
  simpa [hj] using this
 ·intro h j hj
  have hj := List.mem_range.mp hj
  have := h bs[j] (List.getElem_mem hj)
  simpa [hj] using this
theorem ZjM (hc : X.calm = true) : Zct X (.builtin "all") (rAll X.K) := by
 intro pins s σ H xs us Q I r h
 obtain ⟨a, bs, rfl, ha, q⟩ := h
 obtain ⟨u, rfl, ru⟩ := Zfm r
 cases ru
 obtain ⟨its, vx, ht, _⟩ := I.list ha
 have hlen := vx.length
 rw [List.length_map] at hlen
 have hlt : a < s.heap.objs.size := by obtain ⟨_, e, _⟩ := ht.isList; exact Heap.lt_size e
 refine call_all_walk (wpAny_pyIter_list ht.isList ?_)
 refine ⟨_, _, _, _, _, _, fun i => bs.getD i false, rfl, Walks.list (A := X.A.in1) (I.ok.hd hc) _ a (Nat.ne_of_lt hlt) its.toArray, ⟨⟨_, Heap.get?_push_size _ rfl, rfl, rfl⟩, ht.isList.push _⟩, ?_, fun h' tk hk => ?_⟩
 ·intro i v s' Q' E' hv hq
  have hv' : its[i]? = some v := by simpa using hv
  have hi := (List.getElem?_eq_some_iff.mp hv').1
  have hib : i < bs.length := by lia
  obtain ⟨u', eu, ru⟩ := vx.get (i := i) (x := .bl bs[i]) (by rw [List.getElem?_map, List.getElem?_eq_getElem hib]; rfl)
  rw [hv'] at eu
  cases eu
  cases ru
  have e : bs.getD i false = bs[i] := by simp [hib]
  have hq : Q' (bs.getD i false) s' := hq
  rw [e] at hq
  exact wpAny_truthy_bool hq
 ·have hsz : its.toArray.size = bs.length := by simp; lia
  rw [hsz, ZjQ]
  refine ⟨.bl _, H, I.kept fun b o e => ?_, rfl, q⟩
  refine hk b o (fun hm => ?_) (Heap.get?_push_of_some _ e)
  have : b = s.heap.objs.size := by simpa using hm
  rw [this] at e
  exact absurd (Heap.lt_size e) (Nat.lt_irrefl _)
theorem k_all {K : PySem.W.Frag} (h : X.K = K) (hc : X.calm = true) : Zct X (.builtin "all") (rAll K) := h ▸ ZjM hc
end
end L2
end
section
namespace L2
open PySem
inductive Rw where
 | put (p n : Int) | copy (p q : Int) | plus (p q r : Int) | less (p q r : Int) | times (p q n : Int) | take (p : Int) | tell (p : Int) | jump (t : Int) | zero (p t : Int) | below (p t : Int) | call (p f : Int) (qs : List Int) | back (p : Int)
noncomputable def Rw.row : Rw -> Str × List D
 | .put p n => ("put", [.int p, .int n])
 | .copy p q => ("copy", [.int p, .int q])
 | .plus p q r => ("plus", [.int p, .int q, .int r])
 | .less p q r => ("less", [.int p, .int q, .int r])
 | .times p q n => ("times", [.int p, .int q, .int n])
 | .take p => ("take", [.int p])
 | .tell p => ("tell", [.int p])
 | .jump t => ("jump", [.int t])
 | .zero p t => ("zero", [.int p, .int t])
 | .below p t => ("below", [.int p, .int t])
 | .call p f qs => ("call", [.int p, .int f, .tup (qs.map D.int)])
 | .back p => ("back", [.int p])
structure Df where
 takes : Int
 boxes : Int
 rows : List Rw
inductive En where
 | back (n : Int) | dry (f at' : Int) | deep (f at' : Int)
noncomputable def En.d : Option En -> D
 | none => .non
 | some (.back n) => .tup [.str "back", .int n]
 | some (.dry f a) => .tup [.str "dry", .int f, .int a]
 | some (.deep f a) => .tup [.str "deep", .int f, .int a]
noncomputable abbrev Fr := Int × Int × List Int
structure HS where
 frames : List Fr
 left : List Int
 news : List Int
 gone : Int
 fin : Option En
noncomputable def rowsD (rs : List Rw) : List D := rs.map fun r => rowD r.row
noncomputable def DfAt (own : List Addr) (H : Hp) (d : Df) (v : V) : Prop := ∃ t q ys, v = .ref t /\ H t = some (.tup [.int d.takes, .int d.boxes, .ref q]) /\ H q = some (.lst ys) /\ q ∉ own /\ Reps H (rowsD d.rows) ys
noncomputable def PgAt (own : List Addr) (H : Hp) (P : List Df) (pp : Addr) : Prop := ∃ vs, H pp = some (.lst vs) /\ pp ∉ own /\ vs.length = P.length /\ ∀ (i : Nat) (d : Df) (v : V), P[i]? = some d -> vs[i]? = some v -> DfAt own H d v
end L2
end
section
namespace L2
open PySem
noncomputable def hflds (a b c d e f : V) : List (Str × V) := [("program", a), ("frames", b), ("news", c), ("gone", d), ("left", e), ("end", f)]
section
variable {a b c d e f v : V}
end
noncomputable def AllAt (H : Hp) (l : List (Addr × HO)) : Prop := ∀ e ∈ l, H e.1 = some e.2
noncomputable abbrev FZ := (Addr × Addr) × Fr
noncomputable def frObj (z : FZ) : List (Addr × HO) := [(z.1.1, .lst [.int z.2.1, .int z.2.2.1, .ref z.1.2]), (z.1.2, .lst (z.2.2.2.map V.int))]
noncomputable def hObjs (C p dx pp pf pn pl : Addr) (fz : List FZ) (h : HS) (ve : V) : List (Addr × HO) :=
 [(p, .ins C dx (hflds (.ref pp) (.ref pf) (.ref pn) (.int h.gone) (.ref pl) ve)), (pf, .lst (fz.map fun z => V.ref z.1.1)), (pn, .lst (h.news.map V.int)), (pl, .lst (h.left.map V.int))] ++ fz.flatMap frObj
noncomputable def ownA (p pf pn pl : Addr) (fz : List FZ) : List Addr := [p, pf, pn, pl] ++ fz.flatMap fun z => [z.1.1, z.1.2]
structure HA (C p dx pp pf pn pl : Addr) (fz : List FZ) (H : Hp) (P : List Df) (h : HS) (ve : V) : Prop where
 all : AllAt H (hObjs C p dx pp pf pn pl fz h ve)
 nd : (ownA p pf pn pl fz).Nodup
 en : Rep H (En.d h.fin) ve
 pg : PgAt (ownA p pf pn pl fz) H P pp
 fr : fz.map (·.2) = h.frames
section
variable {C p dx pp pf pn pl : Addr} {fz : List FZ} {H : Hp} {P : List Df} {h : HS} {ve : V}
end
end L2
end
section
namespace L2
open PySem
section
variable {C p dx pp pf pn pl : Addr} {fz : List FZ} {z : FZ} {H : Hp} {P : List Df} {h : HS} {ve : V}
end
end L2
end
section
namespace L2
open PySem PySem.Spec PyProof.Rows
section
variable {X : Cx} {pins : List (Addr × Obj)} {σ : St} {H : Hp} {s : Shared} {h' : Heap}
end
section
variable {X : Cx} {tg : Expr}
end
end L2
end
section
namespace L2
open PySem PySem.Spec PyProof.Rows
section
variable {X : Cx} {pins : List (Addr × Obj)} {σ : St} {H : Hp} {s : Shared}
end
section
variable {X : Cx}
end
end L2
end
section
namespace L2
open PySem
section
variable {P : List Df} {h : HS}
end
end L2
end
section
namespace L2
open PySem
section
variable {kp own : List Addr} {H0 H H' : Hp}
theorem apart {own own' oth : List Addr} (new : ∀ x ∈ own', x ∈ own \/ H x = none) (d : ∀ x ∈ oth, x ∉ own) (al : ∀ x ∈ oth, H x ≠ none) : ∀ x ∈ oth, x ∉ own' := fun x hx m => by
 rcases new x m with h | h
 ·exact d x hx h
 ·exact al x hx h
end
section
variable {kp own : List Addr} {H0 H H' : Hp} {P : List Df} {pp : Addr}
end
end L2
end
section
namespace L2
open PySem PySem.Spec PyProof.Rows
noncomputable def Seqs (H : Hp) (x y : V) (xs ys : List V) : Prop := ∃ a b, x = .ref a /\ y = .ref b /\ ((H a = some (.tup xs) /\ H b = some (.tup ys)) \/ (H a = some (.lst xs) /\ H b = some (.lst ys)))
noncomputable def simV : V -> Prop
 | .byt _ => False
 | .flt _ => False
 | .ty _ => False
 | _ => True
noncomputable def Alike (H : Hp) : Nat -> V -> V -> Prop
 | 0, x, y => x = y /\ simV x
 | n + 1, x, y => (x = y /\ simV x) \/ ∃ xs ys, Seqs H x y xs ys /\ xs.length = ys.length /\ ∀ (j : Nat) (u v : V), xs[j]? = some u -> ys[j]? = some v -> Alike H n u v
theorem Alike.up {H : Hp} : ∀ {n : Nat} {x y : V}, Alike H n x y -> Alike H (n + 1) x y
  | 0, x, y, h => .inl h
  | n + 1, x, y, h => by
    rcases h with h | ⟨xs, ys, s, l, k⟩
    · exact .inl h
    · exact .inr ⟨xs, ys, s, l, fun j u v e1 e2 => (k j u v e1 e2).up⟩
theorem Alike.le {H : Hp} {n m : Nat} {x y : V} (h : Alike H n x y) (l : n <= m) : Alike H m x y := by
  induction m with
  | zero => obtain rfl : n = 0 := by lia
            exact h
  | succ m ih =>
    by_cases e : n = m + 1
    · subst e; exact h
    · exact (ih (by lia)).up
theorem Alike.refl {H : Hp} (n : Nat) {x : V} (f : simV x) : Alike H n x x := Alike.le (n := 0) ⟨rfl, f⟩ (Nat.zero_le _)
section
variable {X : Cx} {pins : List (Addr × Obj)} {σ : St} {H : Hp} {s : Shared}
theorem Zcu {xs : List V} {its : List Value} (vx : Vals xs its) {j : Nat} (h : j < its.toArray.size) : ∃ x, xs[j]? = some x /\ RelV x its.toArray[j] := by
 have l1 := vx.length
 have h' : j < its.length := by simpa using h
 have e1 : xs[j]? = some (xs[j]'(by lia)) := List.getElem?_eq_getElem _
 obtain ⟨u1, z1, w1⟩ := vx.get e1
 have y1 : its.toArray[j] = u1 := by
  have : its[j]? = some its[j] := List.getElem?_eq_getElem h'
  rw [z1] at this
  simpa using (Option.some.inj this).symm
 exact ⟨_, e1, by rw [y1]; exact w1⟩
theorem Zgc (I : Inv X pins σ H s) {A : Around} {a b : Addr} {xs ys : List V} (h : (H a = some (.tup xs) /\ H b = some (.tup ys)) \/ (H a = some (.lst xs) /\ H b = some (.lst ys))) (hl : xs.length = ys.length) (hu : A.units < cLine)
  (k : ∀ (j : Nat) (u v : V) (u' v' : Value), xs[j]? = some u -> ys[j]? = some v -> RelV u u' -> RelV v v' -> SeqAt.EqAt A.in1 s u' v' true) : SeqAt.RcAt A s (.ref a) (.ref b) true := by
 rcases h with ⟨ha, hb⟩ | ⟨ha, hb⟩
 ·obtain ⟨its, vx, ht⟩ := I.isTup ha
  obtain ⟨its', vy, ht'⟩ := I.isTup hb
  have l1 := vx.length
  have l2 := vy.length
  have key := SeqAt.RcAt.tuples (A := A) (e := fun _ => true) ht ht' hu fun j j1 j2 => by
   obtain ⟨x, e1, r1⟩ := Zcu vx j1
   obtain ⟨y, e2, r2⟩ := Zcu vy j2
   exact k j x y _ _ e1 e2 r1 r2
  have e : ((List.range (min its.toArray.size its'.toArray.size)).all (fun _ => true) && its.toArray.size == its'.toArray.size) = true := by
   simp; lia
  rw [e] at key
  exact key
 ·obtain ⟨its, vx, ht, _⟩ := I.list (SqL.of ha)
  obtain ⟨its', vy, ht', _⟩ := I.list (SqL.of hb)
  have l1 := vx.length
  have l2 := vy.length
  have key := SeqAt.RcAt.lists (A := A) (e := fun _ => true) ht.isList ht'.isList (by simp; lia) hu fun j j1 j2 => by
   obtain ⟨x, e1, r1⟩ := Zcu vx j1
   obtain ⟨y, e2, r2⟩ := Zcu vy j2
   exact k j x y _ _ e1 e2 r1 r2
  have e : (List.range its.toArray.size).all (fun _ => true) = true := by simp
  rw [e] at key
  exact key
theorem Zfi (I : Inv X pins σ H s) : ∀ (n : Nat) {x y : V} {u v : Value} {A : Around}, Alike H n x y -> RelV x u -> RelV y v -> A.units + n < cLine -> SeqAt.EqAt A s u v true := by
  have flat : ∀ {x : V} {u v : Value} {A : Around}, simV x -> RelV x u -> RelV x v -> SeqAt.EqAt A s u v true := by
    intro x u v A f ru rv
    cases x with
    | non => cases ru; cases rv; exact SeqAt.EqAt.same _
    | bl b => cases ru; cases rv; exact SeqAt.EqAt.same _
    | int i =>
      obtain ⟨t, rfl⟩ := ru; obtain ⟨t', rfl⟩ := rv
      have := SeqAt.EqAt.int_int (A := A) (s := s) i t i t'
      simpa using this
    | str i =>
      obtain ⟨t, rfl⟩ := ru; obtain ⟨t', rfl⟩ := rv
      have := SeqAt.EqAt.str_str (A := A) (s := s) i t i t'
      simpa using this
    | ref a => cases ru; cases rv; exact SeqAt.EqAt.same _
    | _ => cases f
  intro n
  induction n with
  | zero =>
    rintro x y u v A ⟨rfl, f⟩ ru rv hu
    exact flat f ru rv
  | succ n ih =>
    rintro x y u v A h ru rv hu
    rcases h with ⟨rfl, f⟩ | ⟨xs, ys, ⟨a, b, rfl, rfl, h⟩, hl, k⟩
    · exact flat f ru rv
    · cases ru; cases rv
      by_cases hab : a = b
      · subst hab; exact SeqAt.EqAt.same _
      · exact SeqAt.EqAt.of_refs hab (Zgc I h hl (by lia) fun j u v u' v' e1 e2 r1 r2 => ih (k j u v e1 e2) r1 r2 (by show A.units + 1 + n < cLine; lia))
noncomputable def rEqA : R2 := fun x y H Q => ∃ xs ys, Seqs H x y xs ys /\ xs.length = ys.length /\ (∀ (j : Nat) (u v : V), xs[j]? = some u -> ys[j]? = some v -> Alike H 40 u v) /\ Q (.bl true) H
noncomputable def rNeA : R2 := fun x y H Q => ∃ xs ys, Seqs H x y xs ys /\ xs.length = ys.length /\ (∀ (j : Nat) (u v : V), xs[j]? = some u -> ys[j]? = some v -> Alike H 40 u v) /\ Q (.bl false) H
theorem op_eqA (hu : X.A.units + 64 < cLine) : OpR X (compareOp .Eq) rEqA := by
 rintro pins s σ H x y v u Q I rx ry ⟨xs, ys, ⟨a, b, rfl, rfl, h⟩, hl, k, q⟩
 cases rx; cases ry
 have key := Zgc (A := X.A) I h hl (by lia) fun j u v u' v' e1 e2 r1 r2 => Zfi I 40 (k j u v e1 e2) r1 r2 (by show X.A.units + 1 + 40 < cLine; lia)
 exact key _ _ _ _ (ZaN I q rfl)
theorem op_neA (hu : X.A.units + 64 < cLine) : OpR X (compareOp .NotEq) rNeA := by
 rintro pins s σ H x y v u Q I rx ry ⟨xs, ys, ⟨a, b, rfl, rfl, h⟩, hl, k, q⟩
 cases rx; cases ry
 have kk : ∀ (j : Nat) (u v : V) (u' v' : Value), xs[j]? = some u -> ys[j]? = some v -> RelV u u' -> RelV v v' -> SeqAt.EqAt X.A.in1 s u' v' true := fun j u v u' v' e1 e2 r1 r2 => Zfi I 40 (k j u v e1 e2) r1 r2 (by show X.A.units + 1 + 40 < cLine; lia)
 rcases h with ⟨ha, hb⟩ | ⟨ha, hb⟩
 ·obtain ⟨its, vx, ht⟩ := I.isTup ha
  obtain ⟨its', vy, ht'⟩ := I.isTup hb
  have l1 := vx.length
  have l2 := vy.length
  refine SeqAt.RcNeAt.tuples (e := fun _ => true) ht ht' (by lia) (fun j j1 j2 => ?_) _ _ _ _ (ZaN I q ?_)
  ·obtain ⟨x, e1, r1⟩ := Zcu vx j1
   obtain ⟨y, e2, r2⟩ := Zcu vy j2
   exact kk j x y _ _ e1 e2 r1 r2
  ·simp; lia
 ·obtain ⟨its, vx, ht, _⟩ := I.list (SqL.of ha)
  obtain ⟨its', vy, ht', _⟩ := I.list (SqL.of hb)
  have l1 := vx.length
  have l2 := vy.length
  refine SeqAt.RcNeAt.lists (e := fun _ => true) ht.isList ht'.isList (by simp; lia) (by lia) (fun j j1 j2 => ?_) _ _ _ _ (ZaN I q ?_)
  ·obtain ⟨x, e1, r1⟩ := Zcu vx j1
   obtain ⟨y, e2, r2⟩ := Zcu vy j2
   exact kk j x y _ _ e1 e2 r1 r2
  ·simp
end
section
variable {H : Hp}
noncomputable def Zls (H : Hp) (n : Nat) (x y : V) : Prop := ∃ xs ys, Seqs H x y xs ys /\ xs.length = ys.length /\ ∀ (j : Nat) (u v : V), xs[j]? = some u -> ys[j]? = some v -> Alike H n u v
theorem ZjR {n : Nat} {a b : Addr} {xs ys : List V} (ha : H a = some (.lst xs)) (hb : H b = some (.lst ys)) (hl : xs.length = ys.length) (k : ∀ (j : Nat) (u v : V), xs[j]? = some u -> ys[j]? = some v -> Alike H n u v) : Zls H n (.ref a) (.ref b) := ⟨xs, ys, ⟨a, b, rfl, rfl, .inr ⟨ha, hb⟩⟩, hl, k⟩
theorem al_nil {n : Nat} : ∀ (j : Nat) (u v : V), ([] : List V)[j]? = some u -> ([] : List V)[j]? = some v -> Alike H n u v := fun j u v e _ => by simp at e
theorem Zg5 {n : Nat} {x y : V} {xs ys : List V} (h : Alike H n x y) (t : ∀ (j : Nat) (u v : V), xs[j]? = some u -> ys[j]? = some v -> Alike H n u v) : ∀ (j : Nat) (u v : V), (x :: xs)[j]? = some u -> (y :: ys)[j]? = some v -> Alike H n u v
 | 0, u, v, e1, e2 => by simp at e1 e2; subst e1; subst e2; exact h
 | j + 1, u, v, e1, e2 => t j u v (by simpa using e1) (by simpa using e2)
theorem rd_neA {x y : V} {Q : VK} (h : Zls H 40 x y) (q : Q (.bl false) H) : rNeA x y H Q := by
 obtain ⟨xs, ys, s, l, k⟩ := h
 exact ⟨xs, ys, s, l, k, q⟩
end
end L2
end
section
namespace L2
open PySem
section
variable {ow : List Addr} {H0 H H' : Hp} {L L' l1 l2 : List (Addr × HO)} {R R' : List (List D × List V)} {Q : VK} {a q : Addr} {o : HO} {xs ys vs : List V} {ds : List D} {d : D} {v : V}
end
section
variable {b l : Addr} {H0 H H' : Hp} {L L' l1 l2 : List (Addr × HO)} {R R' : List (List D × List V)} {Q : VK} {E : XK} {a q : Addr} {o : HO} {xs ys vs : List V} {ds : List D} {d : D} {v : V}
end
theorem Zfz {K : PySem.W.Frag} {H : Hp} {p : Addr} {ys : List V} {Q : VK} (h : SqT K H p ys) (q : Q (.int ys.length) H) : rLen K [.ref p] H Q := ⟨_, _, rfl, .inr ⟨ys, h, rfl⟩, q⟩
section
variable {ow : List Addr} {b l : Addr} {K : PySem.W.Frag} {H0 H H' : Hp} {L L' l1 l2 : List (Addr × HO)} {R R' : List (List D × List V)} {Q : VK} {E : XK} {a q p : Addr} {o : HO} {xs ys zs vs : List V} {ds : List D} {d : D} {v : V}
end
theorem k_slT {X : Cx} {K : PySem.W.Frag} (h : X.K = K) : SlR X (rSlT K) := h ▸ sl_tup
theorem ZlH {K : PySem.W.Frag} {H : Hp} {a : Addr} {x : V} {xs : List V} {Q : VK} (h : H a = some (.tup (x :: xs))) (q : ∀ p, H p = none -> Q (.ref p) (upd H p (.tup xs))) : rSlT K (.ref a) (some 1) none H Q := by
 refine ⟨a, x :: xs, rfl, SqT.of h, fun z => ?_, fun p hp => ?_⟩
 ·have := z.1
  simp [HT.sIx] at this
 ·have e : cutV (x :: xs) (some 1) none = xs := ZcV (xs := x :: xs) (k := 1) (by simp)
  rw [e]; exact q p hp
end L2
end
section
namespace HT
open PySem PySem.Spec PyProof.Rows L2
section
variable {prog : Program} {w : World} {A : Around} {E : Value -> Shared -> Prop} {s : Shared}
theorem cat_tup0 {t b : Addr} {vs ws : List Value} {Q : Value -> Shared -> Prop} (ht : IsTup s.heap t vs.toArray) (hb : IsTup s.heap b ws.toArray) (hv : vs = []) (h1 : Q (.ref b) s) : wpAny (model prog w) A (binaryOp .Add (.ref t) (.ref b)) Q E s := by
 obtain ⟨⟨cls, dd, data, sl⟩, ho, hc, n, hd⟩ := id ht
 obtain ⟨⟨cls2, dd2, data2, sl2⟩, ho2, hc2, n2, hd2⟩ := id hb
 simp only at hc hd hc2 hd2
 subst hc hd hc2 hd2
 exact concat_meets ⟨_, ho, rfl⟩ ⟨_, ho2, rfl⟩ noFill_tuple_add seq_tuple_add PySem.F.slot_tuple_add PySem.F.entry_tuple_add (PySem.F.args_tuple_add_2 _ _) (tuple_addW0 t b vs.toArray ws.toArray n n2 dd dd2 sl sl2 (by simp [hv])) ⟨ho, ho2, h1⟩
end
end HT
namespace L2
open PySem PySem.Spec PyProof.Rows
section
variable {X : Cx} {K : PySem.W.Frag}
noncomputable def Zmf (K : PySem.W.Frag) : R2 := fun x y H Q => ∃ a b xs ys, x = .ref a /\ y = .ref b /\ SqT K H a xs /\ SqT K H b ys /\ xs.length + ys.length <= sizeLine /\
 (xs = [] -> Q (.ref b) H) /\ (ys = [] -> Q (.ref a) H) /\ ∀ p, H p = none -> Q (.ref p) (upd H p (.tup (xs ++ ys)))
theorem Zmu : OpR X (binaryOp .Add) (Zmf X.K) := by
 intro pins s σ H x y v u Q I rx ry h
 obtain ⟨a, b, xs, ys, rfl, rfl, ha, hb, hz, q0, q1, q2⟩ := h
 by_cases hx : xs = []
 ·cases rx
  cases ry
  obtain ⟨its, r1, p1, _⟩ := I.tuple ha
  obtain ⟨its2, r2, p2, _⟩ := I.tuple hb
  exact HT.cat_tup0 p1 p2 (r1.nil_iff.mpr hx) ⟨.ref b, H, I, rfl, q0 hx⟩
 ·exact Zi6 pins s σ H _ _ v u Q I rx ry ⟨a, b, xs, ys, rfl, rfl, ha, hb, hx, hz, q1, fun _ => q2⟩
theorem k_catW (h : X.K = K) : OpR X (binaryOp .Add) (Zmf K) := h ▸ Zmu
end
theorem Zma {K : PySem.W.Frag} {H : Hp} {a b : Addr} {xs ys : List V} {Q : VK} (h1 : H a = some (.tup xs)) (h2 : H b = some (.tup ys)) (hz : xs.length + ys.length <= 1000000) (q : ∀ p H', H' p = some (.tup (xs ++ ys)) -> Same H H' -> Q (.ref p) H') : Zmf K (.ref a) (.ref b) H Q :=
 ⟨a, b, xs, ys, rfl, rfl, SqT.of h1, SqT.of h2, Zc2 hz, fun e => q b H (by rw [e]; exact h2) (Same.refl _), fun e => q a H (by rw [e, List.append_nil]; exact h1) (Same.refl _), fun p hp => q p _ Zae (Same.new hp)⟩
end L2
end
section
namespace L2
open PySem PySem.Spec PyProof.Rows PySem.Builtin PySem.Builtin.Str
section
variable {X : Cx}
theorem Zhd : ∀ (l : List (Str × Tok)), Vals ((l.map (·.1)).map V.str) (strValues l)
 | [] => .nil
 | (z, t) :: l => .cons ⟨t, rfl⟩ (Zhd l)
theorem Zb7 (x y : Str) : (Txt.split x y).length <= x.length + 2 := by
 unfold Txt.split
 split
 ·show 1 <= _; lia
 ·split
  ·show 1 <= _; lia
  ·rw [length_partsBetween]
   have := StrLaws.occ_length_le x y 0 x.length (x.length + 1)
   lia
noncomputable def ZiR : V -> List V -> Hp -> VK -> Prop := fun x vs H Q => ∃ z y, x = .str z /\ vs = [.str y] /\ (y.length == 0) = false /\ z.length + 2 <= sizeLine /\ ∀ p, H p = none -> Q (.ref p) (upd H p (.lst ((Txt.split z y).map V.str)))
theorem Zck : MtR X "str.split" ZiR := by
 intro pins s σ H x vs v us Q I rx rv h
 obtain ⟨z, y, rfl, rfl, hy, hl, q⟩ := h
 obtain ⟨t, rfl⟩ := rx
 obtain ⟨u, rfl, ru⟩ := rv.one
 obtain ⟨t', rfl⟩ := ru
 have hn := Zb7 z y
 have fin : ∀ (l : List (Str × Tok)) (k : Nat), l.map (·.1) = Txt.split z y -> EP X pins σ Q (.ref s.heap.objs.size) { s with toks := k, heap := s.heap.push { cls := .type "list", data := .seq (strValues l).toArray } } := by
  intro l k e
  refine ⟨.ref s.heap.objs.size, _, I.laid (t' := k) (fun b u e => Heap.get?_push_of_some _ e) (Nat.le_refl _) ?_, rfl, q _ I.fresh⟩
  refine ⟨by rw [List.length_map]; lia, strValues l, 0, by rw [<- e]; exact Zhd l, Heap.get?_push_size _ rfl⟩
 have hx : z.length <= sizeLine := by lia
 have hp : (partsBetween z (occurrences z y 0 z.length (z.length + 1)) y.length).length <= sizeLine := by
  rw [length_partsBetween]
  have := StrLaws.occ_length_le z y 0 z.length (z.length + 1)
  lia
 cases h1 : (decide (z.length < y.length) || decide (strKind z < strKind y))
 ·cases hf : (occurrences z y 0 z.length (z.length + 1)).isEmpty
  ·refine call_meets F.slot_str_split (typeIs_str _ _ _) F.entry_str_split (F.args_str_split_2 _ _) (meets_str_split_sep z y t t' h1 hy hf hx hp) ?_
   show wants _ _ _ { s with toks := _, heap := s.heap.push { cls := .type "list", data := .seq (strsFrom s.toks (partsBetween z (occurrences z y 0 z.length (z.length + 1)) y.length)).toArray } }
   rw [strsFrom_eq]
   exact fin (numbered s.toks _) _ ((numbered_texts _ _).trans ((if_neg (ne_true_of_eq_false h1)).trans (if_neg (ne_true_of_eq_false hf))).symm)
  ·exact call_meets F.slot_str_split (typeIs_str _ _ _) F.entry_str_split (F.args_str_split_2 _ _) (meets_str_split_not_found z y t t' h1 hy hf) (fin [(z, t)] _ ((if_neg (ne_true_of_eq_false h1)).trans (if_pos hf)).symm)
 ·exact call_meets F.slot_str_split (typeIs_str _ _ _) F.entry_str_split (F.args_str_split_2 _ _) (meets_str_split_cannot_occur z y t t' h1) (fin [(z, t)] _ (if_pos h1).symm)
theorem Zdb {z y : Str} {H : Hp} {Q : VK} (hy : (y.length == 0) = false) (hl : z.length + 2 <= sizeLine) (q : ∀ p, H p = none -> Q (.ref p) (upd H p (.lst ((Txt.split z y).map V.str)))) : ZiR (.str z) [.str y] H Q := ⟨z, y, rfl, rfl, hy, hl, q⟩
noncomputable def ZiQ : V -> List V -> Hp -> VK -> Prop := fun x vs H Q => ∃ z y, x = .str z /\ vs = [.str y] /\ Q (.bl (Txt.startswith z y)) H
theorem Zi9 : MtR X "str.startswith" ZiQ := by
 intro pins s σ H x vs v us Q I rx rv h
 obtain ⟨z, y, rfl, rfl, q⟩ := h
 obtain ⟨t, rfl⟩ := rx
 obtain ⟨u, rfl, ru⟩ := rv.one
 obtain ⟨t', rfl⟩ := ru
 exact call_meets F.slot_str_startswith (typeIs_str _ _ _) F.entry_str_startswith (F.args_str_startswith_2 _ _) (gives_str_startswith z y t t').meets ⟨.bl _, H, I, rfl, q⟩
theorem ZiE {z y : Str} {H : Hp} {Q : VK} (q : Q (.bl (Txt.startswith z y)) H) : ZiQ (.str z) [.str y] H Q := ⟨z, y, rfl, rfl, q⟩
noncomputable def rIntT : List V -> Hp -> VK -> Prop := fun xs H Q => ∃ z n, xs = [.str z] /\ PySem.intText? z = some n /\ z.length <= 640 /\ Q (.int n) H
theorem Zgu : Zct X (.type "int") rIntT := by
 intro pins s σ H xs us Q I r h
 obtain ⟨z, n, rfl, hn, hl, q⟩ := h
 obtain ⟨u, rfl, ru⟩ := Zfm r
 obtain ⟨t, rfl⟩ := ru
 exact PySem.W.KIN.call_text hn hl ⟨.int n, H, I.tok _, ⟨_, rfl⟩, q⟩
theorem ZfB {z : Str} {n : Int} {H : Hp} {Q : VK} (h : PySem.intText? z = some n) (hl : z.length <= 640) (q : Q (.int n) H) : rIntT [.str z] H Q := ⟨z, n, rfl, h, hl, q⟩
noncomputable def Zmc : List V -> Hp -> VK -> Prop := fun xs H Q => ∃ i, xs = [.int i] /\ i.natAbs.log2 < 1920 /\ Q (.str (toString i)) H
theorem Zda : Zct X (.type "str") Zmc := Zgt
theorem ZlG {i : Int} {H : Hp} {Q : VK} (h : i.natAbs.log2 < 1920) (q : Q (.str (toString i)) H) : Zmc [.int i] H Q := ⟨i, rfl, h, q⟩
noncomputable def rAddS : R2 := fun x y H Q => ∃ i j, x = .str i /\ y = .str j /\ i.length + j.length <= sizeLine /\ Q (.str (i ++ j)) H
theorem Zbj : OpR X (binaryOp .Add) rAddS := ZhS
theorem Za9 {i j : Str} {H : Hp} {Q : VK} (h : i.length + j.length <= sizeLine) (q : Q (.str (i ++ j)) H) : rAddS (.str i) (.str j) H Q := ⟨i, j, rfl, rfl, h, q⟩
noncomputable def rInS : R2 := fun x y H Q => ∃ i j, x = .str i /\ y = .str j /\ Q (.bl (!(Builtin.Str.occurrences j i 0 j.length 1).isEmpty)) H
theorem op_inS : OpR X (compareOp .In) rInS := Zi4
theorem Zl1 {c : Nat} {z : Str} {H : Hp} {Q : VK} (q : Q (.bl (decide (c ∈ z.cps.toList))) H) : rInS (.str ⟨#[c]⟩) (.str z) H Q := ⟨_, _, rfl, rfl, by rw [StrLaws.found_one]; exact q⟩
theorem Zc7 {K : PySem.W.Frag} (h : X.K = K) : MtR X "str.join" (Zkn K) := h ▸ Zmx
theorem ZcN {K : PySem.W.Frag} {z : Str} {a : Addr} {zs : List Str} {H : Hp} {Q : VK} (ha : SqL K H a (zs.map V.str)) (hl : z.length <= 16) (hw : (zs.map (·.length)).sum + zs.length <= 1048576) (q : Q (.str (Str.join z zs)) H) : Zkn K (.str z) [.ref a] H Q :=
 ⟨z, a, zs, rfl, rfl, ha, hl, hw, by rw [show Txt.join z zs = Str.join z zs from StrLaws.glued_eq_join z zs]; exact q⟩
theorem Zmo {x z : Str} {pos : Pos} (hg : Gl X x) (h : ∃ t, X.mg x = some (.str z t)) (hd : (x == ("__debug__" : Str)) = false := by decide) : PE X (.Name x pos) (tC (.str z)) := by
 obtain ⟨t, ht⟩ := h
 intro pins s σ H Q I q
 exact ZcU I hg ht ⟨.str z, H, I, ⟨t, rfl⟩, q⟩ hd
end
end L2
end
section
namespace L2
open PySem PySem.Spec PyProof.Rows PySem.Builtin PySem.Builtin.Str PySem.NumText
noncomputable abbrev cs (z : Str) : List Nat := z.cps.toList
theorem ZdM {x y : Str} (h : cs x = cs y) : x = y := by
 obtain ⟨a⟩ := x
 obtain ⟨b⟩ := y
 have : a = b := Array.toList_inj.mp h
 rw [this]
theorem Zbc (x y : Str) : cs (x ++ y) = cs x ++ cs y := cps_toList_append x y
theorem ZaO (x : Str) : (cs x).length = x.length := Array.length_toList
theorem ZaU (x y : Str) : (x ++ y).length = x.length + y.length := by
 rw [<- ZaO, <- ZaO, <- ZaO, Zbc, List.length_append]
noncomputable def jn (c : Nat) : List (List Nat) -> List Nat
 | [] => []
 | [x] => x
 | x :: y :: r => x ++ c :: jn c (y :: r)
theorem ZbA (c : Nat) : ∀ (ps : List Str), cs (Str.join ⟨#[c]⟩ ps) = jn c (ps.map cs)
  | [] => rfl
  | [x] => rfl
  | x :: y :: r => by
    show cs (x ++ ⟨#[c]⟩ ++ Str.join ⟨#[c]⟩ (y :: r)) = _
    rw [Zbc, Zbc, ZbA c (y :: r)]
    show (cs x ++ [c]) ++ _ = cs x ++ c :: _
    rw [List.append_assoc]
    rfl
theorem jn_one {c : Nat} : ∀ {ps qs : List (List Nat)}, ps ≠ [] -> qs ≠ [] -> (∀ p ∈ ps, c ∉ p) -> (∀ q ∈ qs, c ∉ q) -> jn c ps = jn c qs -> ps = qs := by
  have cut : ∀ {x y a b : List Nat}, c ∉ x -> c ∉ y -> x ++ c :: a = y ++ c :: b -> x = y /\ a = b := by
    intro x
    induction x with
    | nil =>
      intro y a b _ hy e
      cases y with
      | nil => exact ⟨rfl, (List.cons.inj e).2⟩
      | cons d y => exact absurd ((List.cons.inj e).1 ▸ List.mem_cons_self) hy
    | cons d x ih =>
      intro y a b hx hy e
      cases y with
      | nil => exact absurd ((List.cons.inj e).1 ▸ List.mem_cons_self) hx
      | cons d' y =>
        obtain ⟨e1, e2⟩ := List.cons.inj e
        obtain ⟨e3, e4⟩ := ih (fun h => hx (List.mem_cons_of_mem _ h)) (fun h => hy (List.mem_cons_of_mem _ h)) e2
        exact ⟨by rw [e1, e3], e4⟩
  intro ps
  induction ps with
  | nil => intro qs h; exact absurd rfl h
  | cons p ps ih =>
    intro qs _ hq fp fq e
    cases qs with
    | nil => exact absurd rfl hq
    | cons q qs =>
      cases ps with
      | nil =>
        cases qs with
        | nil => exact congrArg (fun z => [z]) e
        | cons q2 qs =>
          refine absurd ?_ (fp p List.mem_cons_self)
          rw [show p = q ++ c :: jn c (q2 :: qs) from e]
          exact List.mem_append_right _ List.mem_cons_self
      | cons p2 ps =>
        cases qs with
        | nil =>
          refine absurd ?_ (fq q List.mem_cons_self)
          rw [show q = p ++ c :: jn c (p2 :: ps) from e.symm]
          exact List.mem_append_right _ List.mem_cons_self
        | cons q2 qs =>
          obtain ⟨e1, e2⟩ := cut (fp p List.mem_cons_self) (fq q List.mem_cons_self) e
          rw [e1, ih (List.cons_ne_nil _ _) (List.cons_ne_nil _ _) (fun z hz => fp z (List.mem_cons_of_mem _ hz)) (fun z hz => fq z (List.mem_cons_of_mem _ hz)) e2]
theorem ZbN (x y : Str) : Txt.split x y ≠ [] := by
 unfold Txt.split
 split
 ·exact List.cons_ne_nil _ _
 ·split
  ·exact List.cons_ne_nil _ _
  ·intro h
   have := congrArg List.length h
   rw [length_partsBetween] at this
   exact absurd this (Nat.succ_ne_zero _)
theorem Ze7 {c : Nat} {ps : List Str} (h : ps ≠ []) (f : ∀ p ∈ ps, c ∉ cs p) : Txt.split (Str.join ⟨#[c]⟩ ps) ⟨#[c]⟩ = ps := by
 have e := StrLaws.join_split (Str.join ⟨#[c]⟩ ps) ⟨#[c]⟩
 have e1 := congrArg cs e
 rw [ZbA, ZbA] at e1
 have e2 := jn_one (fun z => ZbN _ _ (List.map_eq_nil_iff.mp z)) (fun z => h (List.map_eq_nil_iff.mp z)) (fun p hp => by
  obtain ⟨q, hq, rfl⟩ := List.mem_map.mp hp
  exact StrLaws.split_free _ c q hq) (fun p hp => by
  obtain ⟨q, hq, rfl⟩ := List.mem_map.mp hp
  exact f q hq) e1
 exact List.map_inj_right (f := cs) (fun _ _ => ZdM) |>.mp e2
theorem Zhw (s : Str) : ∀ {a b : List Str}, a ≠ [] -> b ≠ [] -> Str.join s (a ++ b) = Str.join s a ++ s ++ Str.join s b
  | [], _, h, _ => absurd rfl h
  | [x], [], _, h => absurd rfl h
  | [x], y :: b, _, _ => rfl
  | x :: y :: a, b, _, hb => by
    show x ++ s ++ Str.join s (y :: a ++ b) = x ++ s ++ Str.join s (y :: a) ++ s ++ Str.join s b
    rw [Zhw s (List.cons_ne_nil y a) hb]
    apply ZdM
    simp only [Zbc, List.append_assoc]
theorem Zgm (s : Str) : ∀ {ls : List (List Str)}, (∀ l ∈ ls, l ≠ []) -> Str.join s (ls.map (Str.join s)) = Str.join s ls.flatten
  | [], _ => rfl
  | [l], _ => by
    show Str.join s l = Str.join s (l ++ [])
    rw [List.append_nil]
  | l :: m :: ls, h => by
    show Str.join s l ++ s ++ Str.join s ((m :: ls).map (Str.join s)) = Str.join s (l ++ (m :: ls).flatten)
    have hn : (m :: ls).flatten ≠ [] := by
      intro z
      have := List.append_eq_nil_iff.mp (show m ++ ls.flatten = [] from z)
      exact h m (List.mem_cons_of_mem _ List.mem_cons_self) this.1
    rw [Zgm s (fun x hx => h x (List.mem_cons_of_mem _ hx)), Zhw s (h l List.mem_cons_self) hn]
noncomputable def numS (n : Int) : Str := toString n
noncomputable def figs (m : Nat) : List Nat := (Nat.toDigits 10 m).map Char.toNat
theorem cs_num (m : Nat) : cs (numS (m : Int)) = figs m := PySem.W.KIN.signs_num m
theorem cs_neg (m : Nat) : cs (numS (-((m + 1 : Nat) : Int))) = 45 :: figs (m + 1) := by
 show (Str.ofString (toString (Int.negSucc m))).cps.toList = _
 rw [signs_ofString]
 show (("-" ++ Nat.repr (m + 1) : String)).toList.map Char.toNat = _
 rw [String.toList_append, List.map_append, Nat.toList_repr]
 rfl
theorem Zb2 (m : Nat) : AllDigits (figs m) := by
 intro c hc
 obtain ⟨ch, hch, e⟩ := List.mem_map.mp hc
 rw [<- e]
 exact digit_range (Nat.isDigit_of_mem_toDigits (by decide) (by decide) hch)
theorem ZfM (m : Nat) : figs m ≠ [] := by
 intro e
 have h := toDigits_len_ge 10 m
 rw [List.map_eq_nil_iff.mp e] at h
 exact absurd h (by decide)
theorem ZfO {m : Nat} (h : 10 <= m) : figs m = figs (m / 10) ++ figs (m % 10) := by
 have t : Nat.toDigits 10 (m / 10) ++ Nat.toDigits 10 (m % 10) = Nat.toDigits 10 (10 * (m / 10) + m % 10) := Nat.toDigits_append_toDigits (by decide) (by lia) (Nat.mod_lt m (by decide))
 rw [Nat.div_add_mod] at t
 unfold figs
 rw [<- t, List.map_append]
theorem ZdL : ∀ m : Nat, m < 10 -> figs m = [48 + m] := by decide
theorem ZfN : ∀ (k m : Nat), 0 < k -> m < 10 ^ k -> (figs m).length <= k := by
  intro k
  induction k with
  | zero => intro m h; exact absurd h (Nat.lt_irrefl _)
  | succ k ih =>
    intro m _ hm
    by_cases h : m < 10
    · rw [ZdL m h]
      exact Nat.le_add_left _ _
    · rw [ZfO (by lia), List.length_append, ZdL _ (Nat.mod_lt m (by decide))]
      cases k with
      | zero => lia
      | succ k =>
        have := ih (m / 10) (Nat.succ_pos _) (by rw [Nat.div_lt_iff_lt_mul (by decide)]; rw [Nat.pow_succ] at hm; exact hm)
        show _ + 1 <= _
        lia
theorem Zjv : ∀ (m : Nat), 0 < m -> ∃ c r, figs m = c :: r /\ c ≠ 48 := by
  intro m
  induction m using Nat.strongRecOn with
  | _ m ih =>
    intro hm
    by_cases h : m < 10
    · exact ⟨48 + m, [], ZdL m h, by lia⟩
    · obtain ⟨c, r, e, n⟩ := ih (m / 10) (by lia) (by lia)
      exact ⟨c, r ++ figs (m % 10), by rw [ZfO (by lia), e]; rfl, n⟩
theorem ZhA (m : Nat) : digitsVal (figs m) = m := PySem.W.KIN.val_back m
noncomputable def ZbC (n : Int) : Prop := n.natAbs < 10 ^ 60
theorem ZcH (n : Int) : (∃ m : Nat, n = m /\ cs (numS n) = figs m) \/ ∃ m : Nat, 0 < m /\ n = -(m : Int) /\ cs (numS n) = 45 :: figs m := by
 rcases Int.lt_or_le n 0 with h | h
 ·right
  refine ⟨n.natAbs, by lia, by lia, ?_⟩
  have e : n = -(((n.natAbs - 1) + 1 : Nat) : Int) := by lia
  have e2 : n.natAbs = n.natAbs - 1 + 1 := by lia
  rw [show cs (numS n) = cs (numS (-(((n.natAbs - 1) + 1 : Nat) : Int))) by rw [<- e], cs_neg, <- e2]
 ·left
  obtain ⟨m, rfl⟩ := Int.eq_ofNat_of_zero_le h
  exact ⟨m, rfl, cs_num m⟩
theorem ZcT {n : Int} (h : ZbC n) : (numS n).length <= 61 := by
 rw [<- ZaO]
 rcases ZcH n with ⟨m, rfl, e⟩ | ⟨m, _, rfl, e⟩
 ·rw [e]
  have := ZfN 60 m (by decide) (by unfold ZbC at h; lia)
  lia
 ·rw [e]
  have := ZfN 60 m (by decide) (by unfold ZbC at h; lia)
  show _ + 1 <= _
  lia
theorem Zc5 (n : Int) : ∀ c ∈ cs (numS n), c = 45 \/ (48 <= c /\ c <= 57) := by
 intro c hc
 rcases ZcH n with ⟨m, _, e⟩ | ⟨m, _, _, e⟩
 ·rw [e] at hc
  exact .inr (Zb2 m c hc)
 ·rw [e] at hc
  rcases List.mem_cons.mp hc with z | z
  ·exact .inl z
  ·exact .inr (Zb2 m c z)
theorem Ziq {n : Int} (h : ZbC n) : n.natAbs.log2 < 1920 := by
 unfold ZbC at h
 by_cases z : n.natAbs = 0
 ·rw [z]; decide
 ·rw [Nat.log2_lt z]
  refine Nat.lt_of_lt_of_le h (Nat.le_trans (Nat.pow_le_pow_left (by decide : 10 <= 2 ^ 4) 60) ?_)
  rw [<- Nat.pow_mul]
  exact Nat.pow_le_pow_right (by decide) (by decide)
end L2
end
section
namespace L2
open PySem PySem.Spec PyProof.Rows PySem.Builtin PySem.Builtin.Str PySem.NumText
noncomputable def minus : Str := "-"
noncomputable def blank : Str := " "
noncomputable def feed : Str := "\n"
theorem ZkG : minus = ⟨#[45]⟩ := by decide
theorem Zcy : blank = ⟨#[32]⟩ := by decide
theorem Zcp : feed = ⟨#[10]⟩ := by decide
noncomputable def Zca (c : Nat) : Bool := decide (48 <= c) && decide (c <= 57)
noncomputable def figT (z : Str) : List Nat := if (cs z).head? = some 45 then (cs z).drop 1 else cs z
noncomputable def ZaM (most : Nat) (z : Str) : Option Int :=
 if (1 <= (figT z).length /\ (figT z).length <= most) /\ (figT z).all Zca = true then (if (figT z).head? = some 48 /\ cs z ≠ [48] then none else intText? z) else none
theorem Zf5 (z : Str) : Txt.startswith z minus = decide ((cs z).head? = some 45) := by
 rw [Bool.eq_iff_iff, ZkG]
 unfold Txt.startswith
 rw [Bool.and_eq_true, decide_eq_true_eq, decide_eq_true_eq]
 have := StrLaws.subAt_one z 45 0
 rw [List.head?_eq_getElem?]
 exact this
theorem Zis (z : Str) (h : 1 <= z.length) : cs (Txt.slice z (some 1) none) = (cs z).drop 1 := by
 rw [slice_from_eq (b := z.length) (by decide) (by lia) rfl]
 show ((z.cps.toList.drop 1).take ((z.length : Int) - 1).toNat) = _
 rw [List.take_of_length_le]
 rw [List.length_drop]
 have : z.cps.toList.length = z.length := ZaO z
 lia
theorem isFig_of {c : Nat} : Zca c = true ↔ 48 <= c /\ c <= 57 := by simp [Zca]
theorem allFig {l : List Nat} : l.all Zca = true ↔ AllDigits l := by
 rw [List.all_eq_true]
 exact ⟨fun h c hc => isFig_of.mp (h c hc), fun h c hc => isFig_of.mpr (h c hc)⟩
theorem Ze6 {most : Nat} {z : Str} (hm : most <= 600) (h1 : 1 <= (figT z).length /\ (figT z).length <= most) (h2 : (figT z).all Zca = true) : z.length <= 601 /\ ∃ n, intText? z = some n := by
  have hl := ZaO z
  have hd := allFig.mp h2
  unfold figT at h1 hd
  split at h1
  · next e =>
    rw [if_pos e] at hd
    cases ez : cs z with
    | nil => rw [ez] at e; cases e
    | cons c r =>
      rw [ez] at e h1 hd hl
      cases e
      have hr : (List.drop 1 (45 :: r)) = r := rfl
      rw [hr] at h1 hd
      simp only [List.length_cons] at hl
      exact ⟨by lia, _, intText_neg ez hd (fun z => by rw [z] at h1; exact absurd h1.1 (by decide)) (by lia)⟩
  · next e =>
    rw [if_neg e] at hd
    exact ⟨by lia, _, intText_digits hd (fun z => by rw [show cs _ = [] from z] at h1; exact absurd h1.1 (by decide)) (by lia)⟩
theorem ZmK (n : Int) : ∃ m : Nat, n.natAbs = m /\ figT (numS n) = figs m := by
 rcases ZcH n with ⟨m, rfl, e⟩ | ⟨m, hm, rfl, e⟩
 ·refine ⟨m, by lia, ?_⟩
  unfold figT
  rw [e]
  obtain ⟨c, r, ec⟩ : ∃ c r, figs m = c :: r := by
   cases h : figs m with
   | nil => exact absurd h (ZfM m)
   | cons c r => exact ⟨c, r, rfl⟩
  rw [if_neg]
  intro z
  have hc := Zb2 m c (by rw [ec]; exact List.mem_cons_self)
  rw [ec] at z
  cases z
  lia
 ·refine ⟨m, by lia, ?_⟩
  unfold figT
  rw [e]
  rfl
theorem Zh6 {n : Int} (h : ZbC n) : ZaM 60 (numS n) = some n := by
 obtain ⟨m, em, ef⟩ := ZmK n
 have hl := ZfN 60 m (by decide) (by rw [<- em]; exact h)
 have hp : 1 <= (figs m).length := List.length_pos_iff.mpr (ZfM m)
 unfold ZaM
 rw [ef, if_pos ⟨⟨hp, hl⟩, allFig.mpr (Zb2 m)⟩]
 have hx : ¬ ((figs m).head? = some 48 /\ cs (numS n) ≠ [48]) := by
  rintro ⟨h1, h2⟩
  by_cases z : m = 0
  ·subst z
   apply h2
   obtain rfl : n = 0 := by lia
   decide
  ·obtain ⟨c, r, e, hc⟩ := Zjv m (Nat.pos_of_ne_zero z)
   rw [e] at h1
   cases h1
   exact hc rfl
 rw [if_neg hx]
 have hs := ZcT h
 rcases ZcH n with ⟨k, rfl, e⟩ | ⟨k, hk, rfl, e⟩
 ·have q := intText_digits (x := numS (k : Int)) (by show AllDigits (cs _); rw [e]; exact Zb2 k) (by show cs _ ≠ []; rw [e]; exact ZfM k) (by lia)
  rw [q]
  show some (((digitsVal (cs (numS (k : Int))) : Nat) : Int)) = _
  rw [e, ZhA]
 ·rw [intText_neg (x := numS (-(k : Int))) e (Zb2 k) (ZfM k) (by lia), ZhA]
theorem Zc6 {α β : Type} {f : α -> Option β} : ∀ {l : List α} {r : List β}, l.mapM f = some r -> l.length = r.length /\ ∀ (i : Nat) a, l[i]? = some a -> ∃ b, r[i]? = some b /\ f a = some b := by
  intro l
  induction l with
  | nil =>
    intro r h
    cases h
    exact ⟨rfl, fun i a e => by cases e⟩
  | cons x l ih =>
    intro r h
    rw [List.mapM_cons] at h
    cases ex : f x with
    | none => rw [ex] at h; cases h
    | some y =>
      rw [ex] at h
      cases el : l.mapM f with
      | none => rw [el] at h; cases h
      | some ys =>
        rw [el] at h
        cases h
        obtain ⟨h1, h2⟩ := ih el
        refine ⟨by simp [h1], fun i a e => ?_⟩
        cases i with
        | zero => cases e; exact ⟨y, rfl, ex⟩
        | succ i => exact h2 i a e
theorem ZeM : ∀ {ns : List Int}, (∀ n ∈ ns, ZbC n) -> (ns.map numS).mapM (ZaM 60) = some ns
  | [], _ => rfl
  | n :: ns, h => by
    rw [List.map_cons, List.mapM_cons, Zh6 (h n List.mem_cons_self), ZeM fun x hx => h x (List.mem_cons_of_mem _ hx)]
    rfl
noncomputable def Zb3 : Str := "call"
noncomputable def defW : Str := "def"
noncomputable def rowP (w : Str) (ns : List Int) : Option (Str × List D) := match partsT.lookup w with
 | none => none
 | some ks => if w = Zb3 then (match ns with
   | a :: b :: qs => some (Zb3, [.int a, .int b, .tup (qs.map D.int)])
   | _ => none) else if ns.length = ks.length then some (w, ns.map D.int) else none
noncomputable def Zee (acc : List PDef) (r : Str × List D) : List PDef := match acc.getLast? with
 | some d => acc.dropLast ++ [(d.1, d.2.1, d.2.2 ++ [r])]
 | none => []
noncomputable def Zdk (acc : List PDef) (w : Str) (ns : List Int) : Option (List PDef) :=
 if w = defW then (match ns with
  | [a, b] => some (acc ++ [(a, b, [])])
  | _ => none) else if acc = [] then none else (rowP w ns).map (Zee acc)
noncomputable def Zb1 (acc : List PDef) (line : Str) : Option (List PDef) := match Txt.split line blank with
  | [] => none
  | w :: ws => match ws.mapM (ZaM 60) with
    | none => none
    | some ns => Zdk acc w ns
noncomputable def Zc3 (z : Str) : Option (List PDef) := (Txt.split z feed).foldlM Zb1 []
noncomputable def rowT (w : Str) (ns : List Int) : Str := Str.join blank (w :: ns.map numS)
noncomputable def intD : D -> List Int
 | .int n => [n]
 | _ => []
noncomputable def numD : D -> List Int
 | .int n => [n]
 | .tup ds => ds.flatMap intD
 | _ => []
noncomputable def Za2 (r : Str × List D) : List Int := r.2.flatMap numD
theorem ZeK : ∀ (ns : List Int), (ns.map D.int).flatMap numD = ns
  | [] => rfl
  | n :: ns => by
    rw [List.map_cons, List.flatMap_cons, ZeK ns]
    rfl
theorem Zdf : ∀ (ns : List Int), (ns.map D.int).flatMap intD = ns
  | [] => rfl
  | n :: ns => by
    rw [List.map_cons, List.flatMap_cons, Zdf ns]
    rfl
theorem rowP_w {w : Str} {ns : List Int} {r : Str × List D} (h : rowP w ns = some r) : r.1 = w /\ Za2 r = ns := by
 unfold rowP at h
 split at h
 ·cases h
 ·split at h
  ·next e =>
   subst e
   rcases ns with _ | ⟨a, _ | ⟨b, qs⟩⟩
   ·cases h
   ·cases h
   ·cases h
    refine ⟨rfl, ?_⟩
    show [a] ++ ([b] ++ ((qs.map D.int).flatMap intD ++ [])) = _
    rw [Zdf, List.append_nil]
    rfl
  ·split at h
   ·cases h
    exact ⟨rfl, ZeK ns⟩
   ·cases h
structure RowR (r : Str × List D) : Prop where
 row : rowP r.1 (Za2 r) = some r
 num : ∀ n ∈ Za2 r, ZbC n
structure DefR (d : PDef) : Prop where
 takes : ZbC d.1
 boxes : ZbC d.2.1
 rows : ∀ r ∈ d.2.2, RowR r
noncomputable def ZfL (d : PDef) : Str := rowT defW [d.1, d.2.1]
noncomputable def defL (d : PDef) : List Str := ZfL d :: d.2.2.map fun r => rowT r.1 (Za2 r)
noncomputable def Zgd (ds : List PDef) : Str := Str.join feed (ds.map fun d => Str.join feed (defL d))
theorem ZcC {w : Str} {ns : List Int} {r : Str × List D} (h : rowP w ns = some r) : (32 ∉ cs w /\ 10 ∉ cs w) /\ w ≠ defW /\ w.length <= 10 := by
  have hk : ∀ q ∈ partsT, (32 ∉ cs q.1 /\ 10 ∉ cs q.1) /\ q.1 ≠ defW /\ q.1.length <= 10 := by decide +kernel
  unfold rowP at h
  split at h
  · cases h
  · next ks e =>
    have : ∀ (l : List (Str × List Str)), l.lookup w = some ks -> (w, ks) ∈ l := by
      intro l
      induction l with
      | nil => intro h; cases h
      | cons q l ih =>
        intro h
        obtain ⟨a, b⟩ := q
        rw [List.lookup_cons] at h
        split at h
        · next e => cases h; rw [beq_iff_eq.mp e]; exact List.mem_cons_self
        · exact List.mem_cons_of_mem _ (ih h)
    exact hk _ (this _ e)
theorem Zhq (n : Int) : 32 ∉ cs (numS n) /\ 10 ∉ cs (numS n) := ⟨fun h => by have := Zc5 n _ h; lia, fun h => by have := Zc5 n _ h; lia⟩
theorem Zjm {c d : Nat} (hcd : c ≠ d) : ∀ {ps : List (List Nat)}, (∀ p ∈ ps, c ∉ p) -> c ∉ jn d ps
  | [], _ => List.not_mem_nil
  | [x], h => h x List.mem_cons_self
  | x :: y :: r, h => by
    show c ∉ x ++ d :: jn d (y :: r)
    intro z
    rcases List.mem_append.mp z with z | z
    · exact h x List.mem_cons_self z
    · rcases List.mem_cons.mp z with z | z
      · exact hcd z
      · exact Zjm hcd (fun p hp => h p (List.mem_cons_of_mem _ hp)) z
theorem Zdz {w : Str} {ns : List Int} (h : 32 ∉ cs w) : Txt.split (rowT w ns) blank = w :: ns.map numS := by
 unfold rowT
 rw [Zcy]
 refine Ze7 (List.cons_ne_nil _ _) fun p hp => ?_
 rcases List.mem_cons.mp hp with rfl | hp
 ·exact h
 ·obtain ⟨n, _, rfl⟩ := List.mem_map.mp hp
  exact (Zhq n).1
theorem Zhg {w : Str} {ns : List Int} (h : 10 ∉ cs w) : 10 ∉ cs (rowT w ns) := by
 unfold rowT
 rw [Zcy, ZbA]
 refine Zjm (by decide) fun p hp => ?_
 obtain ⟨q, hq, rfl⟩ := List.mem_map.mp hp
 rcases List.mem_cons.mp hq with rfl | hq
 ·exact h
 ·obtain ⟨n, _, rfl⟩ := List.mem_map.mp hq
  exact (Zhq n).2
theorem ZkK {acc : List PDef} {r : Str × List D} (h : RowR r) (ha : acc ≠ []) : Zb1 acc (rowT r.1 (Za2 r)) = some (Zee acc r) := by
 have hw := ZcC h.row
 unfold Zb1
 rw [Zdz hw.1.1]
 show (match ((Za2 r).map numS).mapM (ZaM 60) with | none => none | some ns => Zdk acc r.1 ns) = _
 rw [ZeM h.num]
 show Zdk acc r.1 (Za2 r) = _
 unfold Zdk
 rw [if_neg hw.2.1, if_neg ha, h.row]
 rfl
theorem Zje {acc : List PDef} {d : PDef} (h1 : ZbC d.1) (h2 : ZbC d.2.1) : Zb1 acc (ZfL d) = some (acc ++ [(d.1, d.2.1, [])]) := by
 unfold Zb1 ZfL
 rw [Zdz (by decide)]
 show (match ([d.1, d.2.1].map numS).mapM (ZaM 60) with | none => none | some ns => Zdk acc defW ns) = _
 rw [ZeM (by
  intro n hn
  simp only [List.mem_cons, List.not_mem_nil, or_false] at hn
  rcases hn with rfl | rfl <;> assumption)]
 rfl
theorem ZcW {acc : List PDef} {d : PDef} {r : Str × List D} : Zee (acc ++ [d]) r = acc ++ [(d.1, d.2.1, d.2.2 ++ [r])] := by
 unfold Zee
 rw [List.getLast?_concat, List.dropLast_concat]
theorem Zfe : ∀ {rs : List (Str × List D)} {acc : List PDef} {d : PDef}, (∀ r ∈ rs, RowR r) -> (rs.map fun r => rowT r.1 (Za2 r)).foldlM Zb1 (acc ++ [d]) = some (acc ++ [(d.1, d.2.1, d.2.2 ++ rs)])
  | [], acc, d, _ => by rw [List.append_nil]; rfl
  | r :: rs, acc, d, h => by
    rw [List.map_cons, List.foldlM_cons, ZkK (h r List.mem_cons_self) (by simp), ZcW]
    show (rs.map fun r => rowT r.1 (Za2 r)).foldlM Zb1 (acc ++ [(d.1, d.2.1, d.2.2 ++ [r])]) = _
    rw [Zfe fun x hx => h x (List.mem_cons_of_mem _ hx)]
    simp
theorem Zjd {acc : List PDef} {d : PDef} (h : DefR d) : (defL d).foldlM Zb1 acc = some (acc ++ [d]) := by
 unfold defL
 rw [List.foldlM_cons, Zje h.takes h.boxes]
 show (d.2.2.map fun r => rowT r.1 (Za2 r)).foldlM Zb1 (acc ++ [(d.1, d.2.1, [])]) = _
 rw [Zfe h.rows]
 rfl
theorem Zff : ∀ {ds acc : List PDef}, (∀ d ∈ ds, DefR d) -> (ds.map defL).flatten.foldlM Zb1 acc = some (acc ++ ds)
  | [], acc, _ => by rw [List.append_nil]; rfl
  | d :: ds, acc, h => by
    rw [List.map_cons, List.flatten_cons, List.foldlM_append, Zjd (h d List.mem_cons_self)]
    show (ds.map defL).flatten.foldlM Zb1 (acc ++ [d]) = _
    rw [Zff fun x hx => h x (List.mem_cons_of_mem _ hx)]
    simp
theorem ZcF (ds : List PDef) : Zgd ds = Str.join feed (ds.map defL).flatten := by
 unfold Zgd
 rw [<- Zgm feed (ls := ds.map defL) (fun l hl => by
  obtain ⟨d, _, rfl⟩ := List.mem_map.mp hl
  exact List.cons_ne_nil _ _), List.map_map]
 rfl
theorem ZhB {d : PDef} (h : DefR d) : ∀ l ∈ defL d, 10 ∉ cs l := by
 intro l hl
 rcases List.mem_cons.mp hl with rfl | hl
 ·exact Zhg (by decide)
 ·obtain ⟨r, hr, rfl⟩ := List.mem_map.mp hl
  exact Zhg (ZcC (h.rows r hr).row).1.2
theorem ZhO {ds : List PDef} (hd : ds ≠ []) (h : ∀ d ∈ ds, DefR d) : Zc3 (Zgd ds) = some ds := by
 unfold Zc3
 rw [ZcF, Zcp, Ze7, Zff h]
 ·rfl
 ·cases ds with
  | nil => exact absurd rfl hd
  | cons d ds => exact List.cons_ne_nil _ _
 ·intro p hp
  obtain ⟨l, hl, hp⟩ := List.mem_flatten.mp hp
  obtain ⟨d, hd', rfl⟩ := List.mem_map.mp hl
  exact ZhB (h d hd') p hp
end L2
end
section
namespace L2
open PySem PySem.Spec PyProof.Rows
inductive FlyO (P : Program) (w : World) (C : Addr) (outer : List Env) (H : Hp) (s : Shared) (E : XK) (e : Value) (s' : Shared) : Prop
 | mk (a H' B t) (_ : e = .ref a) (_ : s'.os = s.os) (_ : AllBare s'.gens) (_ : Un (frs outer) [] H H' s.heap s'.heap) (_ : HOk P w H' s'.heap) (_ : Heap.FlyingW B outer a (.ref C) (.ref t) s'.heap) (_ : ∀ b o, (H' b ≠ none \/ (s.heap.get? b ≠ none /\ b ∉ frs outer)) -> s'.heap.get? b = some o -> B.get? b = some o) (_ : E (.ref C) none H') : FlyO P w C outer H s E e s'
noncomputable def Fly (P : Program) (w : World) (C : Addr) : CXT := FlyO P w C
section
variable {P : Program} {w : World} {K : PySem.W.Frag} {mg : Str -> Option Value} {base : Heap} {C : Addr}
theorem _root_.L2.HOk.over {H : Hp} {h h' B : Heap} (ok : HOk P w H h) (kB : ∀ b o, H b ≠ none -> h.get? b = some o -> B.get? b = some o) (st : B.StaysIn h') : HOk P w H h' := fun b u e =>
  (ok b u e).stay (fun c v hc q => st _ _ (kB c v (by rcases hc with rfl | hc
                                                      · rw [e]; exact fun z => by cases z
                                                      · rw [hc]; exact fun z => by cases z) q)) (fun _ q => q) (fun _ _ q => q)
theorem ObjOk.has {H : Hp} {h : Heap} {a : Addr} {o : HO} (x : ObjOk P w H h a o) : ∃ u, h.get? a = some u := by
 cases o with
 | lst xs => obtain ⟨_, _, _, _, e⟩ := x; exact ⟨_, e⟩
 | tup xs => obtain ⟨_, _, _, ob, e, _⟩ := x; exact ⟨_, e⟩
 | dK kvs => obtain ⟨_, _, _, _, ob, _, _, e, _⟩ := x; exact ⟨_, e⟩
 | dT kvs => obtain ⟨_, _, _, _, ob, _, _, e, _⟩ := x; exact ⟨_, e⟩
 | set S n => obtain ⟨ob, _, _, _, e, _⟩ := x; exact ⟨_, e⟩
 | ins C dx fs => obtain ⟨_, _, _, e, _⟩ := x; exact ⟨_, e⟩
 | own x' => exact x
 | xd fs => obtain ⟨_, ⟨_, _, _, e, _⟩, _⟩ := x; exact ⟨_, e⟩
 | rng lo hi => obtain ⟨_, _, _, e⟩ := x; exact ⟨_, e⟩
 | frz o u => exact ⟨_, x.1⟩
 | tbl ps => exact ⟨_, x⟩
 | met f x' => exact ⟨_, x⟩
 | ext φ => exact x.2.1
section
variable {N : List Str} {qual : Str} {scope : Scope} {f : Addr} {cd : Value} {A : Around} {outer : List Env} {s : Shared} {H : Hp} {E : XK} {pins : List (Addr × Obj)} {σ : St} {H1 : Hp} {s1 : Shared}
theorem Zi1 {h' B : Heap} {a t : Addr} (I : Inv (cxOf (Fly P w C) P w K mg base N qual scope f cd A outer s H E) pins σ H1 s1) (kB : ∀ b o, (H1 b ≠ none \/ (s.heap.get? b ≠ none /\ b ∉ frs outer)) -> s1.heap.get? b = some o -> B.get? b = some o)
  (fl : Heap.FlyingW B outer a (.ref C) (.ref t) h') (up : s1.heap.UpToSlots h') (e : E (.ref C) none H1) : Fly P w C outer H s E (.ref a) { s1 with heap := h' } := by
 have hu : Un (frs outer) [] H H1 s.heap s1.heap := I.base
 have hfr : ∀ b ∈ frs outer, ∃ o, s1.heap.get? b = some o /\ ∀ vs, o.data ≠ .fields vs := fun b hb => (I.stack.mem (show b ∈ (envOfC qual scope s.heap.objs.size f cd :: outer).filterMap (·.frame) from List.mem_cons_of_mem _ hb)).2
 have old : ∀ b o, s.heap.get? b = some o -> ∃ o', s1.heap.get? b = some o' := fun b o hb => hu.there b o hb (by simp)
 refine ⟨a, H1, B, t, rfl, I.os, I.bare, ⟨fun b o hb hn hf hx => ?_, fun b o hb hn hf hx => ?_, hu.free, fun b o hb hx => ?_, hu.tups, hu.frzs, hu.tbls⟩, I.hok.over (fun b o hb => kB b o (.inl hb)) fl.1, fl, fun b o hb e' => ?_, e⟩
 ·exact fl.1 b o (kB b o (.inr ⟨(by rw [hb]; exact fun z => (by cases z)), hf⟩) (hu.keep b o hb hn hf hx))
 ·obtain ⟨sl, q⟩ := hu.slot b o hb hn hf hx
  obtain ⟨o', q', nf⟩ := hfr b hf
  rw [q] at q'
  cases q'
  obtain ⟨sl2, q2⟩ := up b _ q nf
  exact ⟨sl2, q2⟩
 ·obtain ⟨o', q⟩ := old b o hb
  by_cases hf : b ∈ frs outer
  ·obtain ⟨o2, q2, nf⟩ := hfr b hf
   obtain ⟨sl, q3⟩ := up b o2 q2 nf
   exact ⟨_, q3⟩
  ·exact ⟨o', fl.1 b o' (kB b o' (.inr ⟨(by rw [hb]; exact fun z => (by cases z)), hf⟩) q)⟩
 ·have : ∃ o1, s1.heap.get? b = some o1 := by
   rcases hb with hb | ⟨hb, _⟩
   ·cases q : H1 b with
    | none => exact absurd q hb
    | some u => exact ObjOk.has (I.hok b u q)
   ·cases q : s.heap.get? b with
    | none => exact absurd q hb
    | some u => exact old b u q
  obtain ⟨o1, q1⟩ := this
  have h1 := kB b o1 hb q1
  have h2 := fl.1 b o1 h1
  rw [e'] at h2
  cases h2
  exact h1
theorem ZeF {b : Addr} (h : s.heap.get? b ≠ none) (n : b ∉ frs outer) : b ∉ frs (envOfC qual scope s.heap.objs.size f cd :: outer) := fun m => by
 rcases List.mem_cons.mp (show b ∈ s.heap.objs.size :: frs outer from m) with e | m
 ·cases q : s.heap.get? b with
  | none => exact h q
  | some o => exact absurd (Heap.lt_size q) (by rw [e]; exact Nat.lt_irrefl _)
 ·exact n m
theorem ZiO {h1 : Heap} {e : Addr} {vs : List Value} (I : Inv (cxOf (Fly P w C) P w K mg base N qual scope f cd A outer s H E) pins σ H1 s1) (hx : Heap.MadeExcOf s1.heap h1 e (.ref C) vs) (he : E (.ref C) none H1) :
  (cxOf (Fly P w C) P w K mg base N qual scope f cd A outer s H E).xe (.ref e) { s1 with heap := h1 } := by
 have I2 : Inv (cxOf (Fly P w C) P w K mg base N qual scope f cd A outer s H E) pins σ H1 { s1 with heap := h1 } := I.kept (h' := h1) (t' := s1.toks) hx.keeps
 have hin : ∀ env ∈ (envOfC qual scope s.heap.objs.size f cd :: outer), ∀ b, env.frame = some b -> b ∈ frs (envOfC qual scope s.heap.objs.size f cd :: outer) := fun env hm b hb => List.mem_filterMap.mpr ⟨env, hm, hb⟩
 refine wpAny_leaves_madeW (base := PySem.W.hideAll s1.heap (frs (envOfC qual scope s.heap.objs.size f cd :: outer))) (h := s1.heap) I.ok.frames rfl (fun b o q => PySem.W.of_hideAll _ q) (PySem.W.funFrames_hide I.stack hin) hx fun h' t fl _ _ up => ?_
 refine Zi1 I2 (fun b o hb q => ?_) fl up he
 have q1 : ∃ o1, s1.heap.get? b = some o1 := by
  rcases hb with hb | ⟨hb, _⟩
  ·cases z : H1 b with
   | none => exact absurd z hb
   | some u => exact ObjOk.has (I.hok b u z)
  ·cases z : s.heap.get? b with
   | none => exact absurd z hb
   | some u => exact I.base.there b u z (show b ∉ ([] : List Addr) by simp)
 obtain ⟨o1, q1⟩ := q1
 have q2 := hx.keeps b o1 q1
 rw [show h1.get? b = some o from q] at q2
 cases q2
 refine PySem.W.hideAll_get _ q1 ?_
 rcases hb with hb | ⟨hb, hn⟩
 ·exact fun m => hb (I.stkFree b m)
 ·exact ZeF hb hn
theorem Zkz : Ze1 (Fly P w C) (cxOf (Fly P w C) P w K mg base N qual scope f cd A outer s H E) E := by
  intro pins σ H1 s1 e s2 I h
  obtain ⟨a, H2, B, t, rfl, os, bare, un, hok, fl, kB, he⟩ := h
  have I2 := I.call' (ch := []) os un hok bare (fun b z => absurd z (by simp))
  refine wpAny_leaves_onW I.ok.frames rfl fl fun h' fl' up => Zi1 I2 (fun b o hb q => kB b o ?_ q) fl' up he
  rcases hb with hb | ⟨hb, hn⟩
  · exact .inl hb
  · refine .inr ⟨?_, ZeF hb hn⟩
    cases z : s.heap.get? b with
    | none => exact absurd z hb
    | some u =>
      obtain ⟨o', q'⟩ := I.base.there b u z (show b ∉ ([] : List Addr) by simp)
      rw [q']
      exact fun z => by cases z
noncomputable def bmVE : List Value := [.type "ValueError", .type "Exception", .type "BaseException", .type "object"]
noncomputable def ExcC (K : PySem.W.Frag) (C : Addr) : Prop := PySem.W.excIn K C bmVE "ValueError.__new__" = true
theorem exc_m1 {p : Prop} {ms : List Value} {ss : List (Option Value)} {f : Addr -> List Value -> Option Value -> Option Value -> Option Value -> Option Value -> String -> Option Value -> Bool}
    (k : ∀ C' bm s0 s1 s2 s3 n s5, ms = .ref C' :: bm -> ss = [s0, s1, s2, s3, some (.builtin n), s5] -> f C' bm s0 s1 s2 s3 n s5 = true -> p)
    (q : PySem.W.excIn.match_1 (fun _ _ => Bool) ms ss f (fun _ _ => false) = true) : p := by
  cases ms with
  | nil => exact absurd q Bool.false_ne_true
  | cons v bm =>
    cases v with
    | ref C' =>
      cases ss with
      | nil => exact absurd q Bool.false_ne_true
      | cons s0 ss =>
        cases ss with
        | nil => exact absurd q Bool.false_ne_true
        | cons s1 ss =>
          cases ss with
          | nil => exact absurd q Bool.false_ne_true
          | cons s2 ss =>
            cases ss with
            | nil => exact absurd q Bool.false_ne_true
            | cons s3 ss =>
              cases ss with
              | nil => exact absurd q Bool.false_ne_true
              | cons s4 ss =>
                cases s4 with
                | none => exact absurd q Bool.false_ne_true
                | some v =>
                  cases v with
                  | builtin n =>
                    cases ss with
                    | nil => exact absurd q Bool.false_ne_true
                    | cons s5 ss =>
                      cases ss with
                      | nil => exact k _ _ _ _ _ _ _ _ rfl rfl q
                      | cons _ _ => exact absurd q Bool.false_ne_true
                  | _ => exact absurd q Bool.false_ne_true
    | _ => exact absurd q Bool.false_ne_true
theorem exc_m6 {p : Prop} {o : Option Obj} {f : Option Addr -> ClassData -> Array (Option Value) -> Bool}
    (k : ∀ dd cd sl, o = some ⟨.type "type", dd, .cls cd, sl⟩ -> f dd cd sl = true -> p)
    (q : PySem.W.excIn.match_6 (fun _ => Bool) o f (fun _ => false) = true) : p := by
  cases o with
  | none => exact absurd q Bool.false_ne_true
  | some o =>
    obtain ⟨c, dd, d, sl⟩ := o
    cases c with
    | type t =>
      by_cases ht : t = "type"
      · subst ht
        cases d with
        | cls cd => exact k _ _ _ rfl q
        | _ => exact absurd q Bool.false_ne_true
      · unfold PySem.W.excIn.match_6 at q
        have q := (dif_neg ht).symm.trans q
        cases q
    | _ => exact absurd q Bool.false_ne_true
inductive ExcO (h : Heap) (C : Addr) : Prop
 | mk (Nn nm qn bs bm hdct sn sub ab col dd k0 k1 k2 k3 k5) (_ : h.get? C = some (excClassObj nm qn C Nn bs bm hdct sn sub ab col dd k0 k1 k2 k3 k5 "ValueError.__new__")) (_ : h.Ns Nn (h.nsMap Nn)) (_ : h.nsMap Nn "__init__" = none) (_ : OwnTail h bmVE bm) : ExcO h C
theorem ZmL {h : Heap} (X : K.In h) (q : ExcC K C) : ExcO h C := by
 unfold ExcC PySem.W.excIn at q
 refine exc_m6 (fun dd c9 slots look q => ?_) q
 refine exc_m1 (fun C' tl s0 s1 s2 s3 nid s5 em es q => ?_) q
 rw [Bool.and_eq_true, Bool.and_eq_true, Bool.and_eq_true, Bool.and_eq_true, Bool.and_eq_true] at q
 obtain ⟨⟨⟨⟨⟨q1, q2⟩, q3⟩, q4⟩, q5⟩, q6⟩ := q
 have q1 := beq_iff_eq.mp q1
 have q2 := beq_iff_eq.mp q2
 subst q1 q2
 cases c9
 dsimp only at em q3 q5 q6
 rw [Bool.not_eq_true'] at q3
 subst em q3
 have : slots = #[s0, s1, s2, s3, some (.builtin "ValueError.__new__"), s5] := Array.toList_inj.mp es
 subst this
 exact ⟨_, _, _, _, tl, _, _, _, _, _, dd, s0, s1, s2, s3, s5, X _ _ look, .of_isNs (PySem.W.isNs_of_in X q5), PySem.W.nsMap_none_of_in X q5 (beq_iff_eq.mp q6), PySem.W.tail_of_in X q4⟩
noncomputable def Zk5 (E : XK) (C : Addr) (t : TA) : TS := fun _ σ H => t σ H fun vs H1 => vs.length <= 1000 /\ E (.ref C) none H1
theorem ZcQ {x : Str} {np cpos pos : Pos} {e₀ : Expr} {rest : List Expr} {t : TA} (hg : Gl (cxOf (Fly P w C) P w K mg base N qual scope f cd A outer s H E) x) (hm : mg x = some (.ref C)) (XC : ExcC K C) (ha : PA (cxOf (Fly P w C) P w K mg base N qual scope f cd A outer s H E) (e₀ :: rest) t)
  (hst : starEach (e₀ :: rest) (envOfC qual scope s.heap.objs.size f cd) = (false, eval e₀ (envOfC qual scope s.heap.objs.size f cd)) :: starEach rest (envOfC qual scope s.heap.objs.size f cd) := by rfl)
  (hpl : (backTo cpos (starEach rest (envOfC qual scope s.heap.objs.size f cd))).any (·.1) = false := by rfl) (hd : (x == ("__debug__" : Str)) = false := by decide) :
  PS (cxOf (Fly P w C) P w K mg base N qual scope f cd A outer s H E) (.Raise (some (.Call (.Name x np) (e₀ :: rest) [] cpos)) none pos) (Zk5 E C t) := by
 intro pins s1 σ H1 D I h
 have kin : K.In base := I.ok.mod.kin
 obtain ⟨Nn, nm, q, bs, bm, hdct, sn, sub, ab, col, dd, k0, k1, k2, k3, k5, hC, hns, hnone, tl⟩ := ZmL kin XC
 refine wpAny_Raise_call_subU (C := C) (nm := nm) (q := q) (N := Nn) (bs := bs) (bm := bm) (hdct := hdct) (sn := sn) (sub := sub) (ab := ab) (col := col) (dd := dd) (k0 := k0) (k1 := k1) (k2 := k2) (k3 := k3) (k5 := k5) (mN := base.nsMap Nn)
  F.excBase_ValueError (bmB := bmVE) (by decide) F.excBase_ValueError (tl.hasType (by decide)) (I.ok.hd rfl) ?_ hnone (ZcU I hg hm ⟨rfl, ?_⟩ hd)
 ·show (backTo cpos (starEach (e₀ :: rest) (envOfC qual scope s.heap.objs.size f cd))).any (·.1) = false
  rw [hst]
  show (false || (backTo cpos (starEach rest (envOfC qual scope s.heap.objs.size f cd))).any (·.1)) = false
  rw [hpl]
  rfl
 ·show wpAny _ _ (evalArgs (.ref C) true (backTo cpos (starEach (e₀ :: rest) (envOfC qual scope s.heap.objs.size f cd))) []) _ _ _
  have h2 := ha cpos pins s1 σ H1 _ I h
  change wpAny _ _ (spliced (backTo cpos (starEach (e₀ :: rest) (envOfC qual scope s.heap.objs.size f cd)))) _ _ _ at h2
  rw [hst] at h2 ⊢
  refine Calls.evalArgs_plain (thn h2 fun us s2 h3 => ?_)
  obtain ⟨vs, H2, I2, rv, hl, he⟩ := h3
  have kb : ∀ b o, base.get? b = some o -> s2.heap.get? b = some o := I2.bk
  exact ⟨rfl, by rw [<- rv.length]; exact Nat.le_trans hl (by decide), kb _ _ hC, hns.keeps kb, tl.keeps kb, fun h' e hx => ZiO I2 hx he⟩
end
end
end L2
end
section
namespace L2
open PySem PySem.Spec PyProof.Rows
section
variable {X : Cx} {C : Addr} {pins : List (Addr × Obj)} {σ : St} {H H' : Hp} {s s' : Shared}
theorem Inv.land {B h2 : Heap} (I : Inv X pins σ H s) (os : s'.os = s.os) (bare : AllBare s'.gens) (un : Un (frs X.stack) [] H H' s.heap s'.heap) (hok : HOk X.prog X.w H' s'.heap)
  (kB : ∀ b o, (H' b ≠ none \/ (s.heap.get? b ≠ none /\ b ∉ frs X.stack)) -> s'.heap.get? b = some o -> B.get? b = some o) (st : B.StaysIn h2) (up : s'.heap.UpToSlots h2) : Inv X pins σ H' { s' with heap := h2 } := by
 have I2 := I.call' (ch := []) os un hok bare (fun b z => absurd z (by simp))
 have hfr : ∀ b ∈ frs X.stack, ∃ o, s'.heap.get? b = some o /\ ∀ vs, o.data ≠ .fields vs := fun b hb => (I2.stack.mem hb).2
 refine I.call' (s' := { s' with heap := h2 }) (ch := []) os ⟨fun b o hb hn hf hx => ?_, fun b o hb hn hf hx => ?_, un.free, fun b o hb hx => ?_, un.tups, un.frzs, un.tbls⟩ (hok.over (fun b o hb => kB b o (.inl hb)) st) bare (fun b z => absurd z (by simp))
 ·exact st b o (kB b o (.inr ⟨(by rw [hb]; exact fun z => (by cases z)), hf⟩) (un.keep b o hb hn hf hx))
 ·obtain ⟨sl, q⟩ := un.slot b o hb hn hf hx
  obtain ⟨o', q', nf⟩ := hfr b hf
  rw [q] at q'
  cases q'
  obtain ⟨sl2, q2⟩ := up b _ q nf
  exact ⟨sl2, q2⟩
 ·obtain ⟨o', q⟩ := un.there b o hb hx
  by_cases hf : b ∈ frs X.stack
  ·obtain ⟨o2, q2, nf⟩ := hfr b hf
   obtain ⟨sl, q3⟩ := up b o2 q2 nf
   exact ⟨_, q3⟩
  ·exact ⟨o', st b o' (kB b o' (.inr ⟨(by rw [hb]; exact fun z => (by cases z)), hf⟩) q)⟩
theorem Inv.unbound {j t : Nat} {n : Str} {h2 : Heap} {m : Str -> Option Value} {v : Option Value} (I : Inv X pins σ H s) (hN : X.N.Nodup) (hj : X.N[j]? = some n) (hn : s.heap.Ns X.env.locals m) (hl : ∀ (i : Nat) (x : Str) (v : V), X.N[i]? = some x -> σ[i]? = some (some v) -> Vis X.env.scope x -> ∃ u, RelV v u /\ Look X.env s.heap m x u)
  (hn' : h2.Ns X.env.locals (fun x => if x = n then v else m x)) (hs : Heap.SameBut X.env.locals s.heap h2) : Inv X pins (σ.set j none) H { s with heap := h2, toks := t } := by
 obtain ⟨oL, _, _, hoL, _⟩ := id hn
 have cne := I.cne
 have hjσ : j < σ.length := by rw [I.len]; exact (List.getElem?_eq_some_iff.mp hj).1
 have far : ∀ {b : Addr} {o : Obj}, X.s₀.heap.get? b = some o -> b ≠ X.env.locals := fun e => Nat.ne_of_lt (Nat.lt_of_lt_of_le (Heap.lt_size e) I.ok.above)
 refine ⟨I.ok, I.os, I.bare, ⟨fun b o e n hb hx => ?_, fun b o e n hb hx => ?_, I.base.free, fun b o e hx => ?_, I.base.tups, I.base.frzs, I.base.tbls⟩, ⟨_, hn', fun i y v' e1 e2 e3 => ?_⟩, fun y c e => ?_, I.free, I.freeC, fun p hp => ?_, fun b ob e => ?_, by simpa using I.len⟩
 ·exact (hs.2 b (far e)).trans (I.base.keep b o e n hb hx)
 ·obtain ⟨sl, e1⟩ := I.base.slot b o e n hb hx
  exact ⟨sl, (hs.2 b (far e)).trans e1⟩
 ·obtain ⟨o', e1⟩ := I.base.there b o e hx
  exact ⟨o', (hs.2 b (far e)).trans e1⟩
 ·by_cases hi : i = j
  ·subst hi
   rw [List.getElem?_set_self hjσ] at e2
   cases e2
  ·rw [List.getElem?_set_ne (Ne.symm hi)] at e2
   obtain ⟨u', r', q⟩ := hl i y v' e1 e2 e3
   refine ⟨u', r', ?_⟩
   rcases q with ⟨k, e⟩ | ⟨k, c, e, z⟩
   ·refine .inl ⟨k, ?_⟩
    have : y ≠ n := fun e => hi (ZfI hN e1 (e ▸ hj))
    simp [this, e]
   ·exact .inr ⟨k, c, e, z.sameBut hs (cne y c e)⟩
 ·obtain ⟨w', z⟩ := I.cell y c e
  exact ⟨w', z.sameBut hs (cne y c e)⟩
 ·obtain ⟨e, n, ne, nf, d⟩ := I.pin p hp
  exact ⟨(hs.2 p.1 ne).trans e, n, ne, nf, d⟩
 ·refine (I.hok b ob e).stay (fun c w' hc q => (hs.2 c ?_).trans q) (fun _ q => q) fun _ _ q => q
  rintro rfl
  rcases hc with rfl | hc
  ·rw [I.free] at e; cases e
  ·rw [I.free] at hc; cases hc
noncomputable def Cx.held (X : Cx) (a : Addr) (oe : Obj) : Cx := { X with A := X.A.mark (some (.ref a)), calm := false, pn := (a, oe) :: X.pn, xe := fun _ _ => False }
theorem Inv.held {a : Addr} {oe : Obj} (I : Inv X pins σ H s) (e : s.heap.get? a = some oe) (n : H a = none) (nl : a ≠ X.env.locals) (nf : a ∉ X.fs) (nc : ∀ v, oe.data ≠ .cell v) : Inv (X.held a oe) pins σ H s :=
  ⟨⟨I.ok.mod, I.ok.kind, I.ok.glob, I.ok.blt, I.ok.above, I.ok.inj, I.ok.has, I.ok.cab, fun z => (by cases z), I.ok.frames, I.ok.stk, I.ok.exf, I.ok.bs, I.ok.bsz, I.ok.noex, I.ok.exfs, I.ok.funs, I.ok.frf⟩, I.os, I.bare, I.base, I.loc, I.cell, I.free, I.freeC,
    fun p hp => by
      rcases List.mem_cons.mp (show p ∈ (a, oe) :: (X.pn ++ pins) from hp) with rfl | hp
      · exact ⟨e, n, nl, nf, nc⟩
      · exact I.pin p hp, I.hok, I.len⟩
theorem Inv.unheld {a : Addr} {oe : Obj} (ok : X.Ok) (I : Inv (X.held a oe) pins σ H s) : Inv X pins σ H s :=
 ⟨ok, I.os, I.bare, I.base, I.loc, I.cell, I.free, I.freeC, fun p hp => I.pin p (List.mem_cons_of_mem _ hp), I.hok, I.len⟩
noncomputable def Zlx (i j : Nat) (sp : Sp) (ta : TA) (th : Addr -> TS) : TS := fun D σ H => ta σ H fun vs H1 => sp vs H1 (fun v H2 => D.nx (σ.set i (some v)) H2)
 (fun _ _ H2 => ∀ a, H2 a = none -> th a { nx := fun σ' H3 => D.nx (σ'.set j none) H3, rt := fun _ _ => False } (σ.set j (some (.ref a))) H2)
theorem Zf2 {M : Model} {h : Heap} {a : Addr} {ob : Obj} {c : Value} (e : h.get? a = some ob) (hc : ob.cls = c) : PySem.W.Looks M h (typeOf (.ref a)) c := by
 subst hc
 exact (PySem.W.Looks.ld e).andThen .now
theorem Zmg {i j k : Nat} {f L : Addr} {fd : FuncData} {ps : List Str} {sp : Sp} {fn x lx n : Str} {px p1 p2 p3 np hp pos : Pos} {e1 : Expr} {es : List Expr} {ta : TA} {th : Addr -> TS} {b0 : Stmt} {suite : List Stmt}
    (hst : X.stack = X.env :: X.outer) (hfm : X.env.frame = some X.env.locals) (hN : X.N.Nodup) (hi : X.N[i]? = some x) (hx : Loc X.env.scope x) (hf : X.fn x = true \/ X.env.scope.names.lookup x = some .local) (hj : X.N[j]? = some n) (hjl : X.env.kindOf n = some .local) (hjs : X.env.scope.names.lookup n = some .local)
    (F : FnOk X.prog X.w X.K X.mg X.base (Fly X.prog X.w C) k f fd ps sp) (hr : Room k X.A) (hg : Gl X fn) (hm : X.mg fn = some (.ref f)) (hk : PySem.W.keepIn X.K (.ref f) = true) (hb : Binds X.K fd ps []) (ha : PA X.nox (e1 :: es) ta)
    (hl : Gl X lx) (hlm : X.mg lx = some (.ref L)) (hex : PySem.W.exmOne X.K (.ref C) (.ref L) = some true)
    (hs : ∀ (a : Addr) (oe : Obj), oe.cls = .ref C -> (∃ vs, oe.data = .fields vs) -> PSs (X.held a oe) (b0 :: suite) (th a))
    (hsw : swapsWith (.Call (.Name fn p1) (e1 :: es) [] p2) (some (.Name x px)) p3.line X.env = pure false := by rfl)
    (hd : (fn == ("__debug__" : Str)) = false := by decide) (hd2 : (lx == ("__debug__" : Str)) = false := by decide) (he : starEach (e1 :: es) X.env = (false, eval e1 X.env) :: starEach es X.env := by rfl) (hpl : (backTo p2 (starEach es X.env)).any (·.1) = false := by rfl) :
    PS X (.Try [.Assign [.Name x px] (.Call (.Name fn p1) (e1 :: es) [] p2) p3] [.ExceptHandler (some (.Name lx np)) (some n) (b0 :: suite) hp] [] [] pos) (Zlx i j sp ta th) := by
  intro pins s σ H D I h
  refine wpAny_Try_except (wpAny_execs_cons (wpAny_Assign_Name (wpAny_Call_Name_kw (ZcU I hg hm ?_ hd)) hsw))
  refine PySem.W.callWith_K (h₀ := X.base) I.ok.mod.kin hk ?_ he hpl
  refine wpAny_mono (ha p2 pins s σ H _ (I.wish _) h) (fun us s1 q => ?_) (fun _ _ z => False.elim z)
  obtain ⟨vs, H1, I1, rv, q1⟩ := q
  have I1 := I1.unwish
  refine ⟨I1.kIn, ?_⟩
  have hlen : (us ++ []).length = ps.length := by rw [List.append_nil, <- rv.length]; exact F.len _ _ _ _ q1
  have hb1 := hb s1 us I1.kIn hlen
  rw [List.append_nil] at hb1
  refine wpAny_call (codeAny_mono (F.run X.A X.stack s1 H1 ⟨us, []⟩ us vs _ _ hr I1.env0 hb1 rv q1) fun r s2 hq => ?_)
  cases r with
  | ok fl =>
    cases fl with
    | ret u =>
      obtain ⟨v, H2, I2, rv2, q2⟩ := I1.after hq
      exact Zdv I2 hN hi hx rv2 (fun s3 I3 => wpAny_execs_nil (wpAny_execs_nil ⟨_, H2, I3, q2⟩)) hf
    | next => exact False.elim hq
    | brk => exact False.elim hq
    | cont => exact False.elim hq
  | error e =>
    refine opq ?_
    intro gg
    obtain ⟨a, H2, B, t, rfl, os, bare, un, hok, fl, kB, hw⟩ := hq
    rw [hst] at fl
    have hfr : X.A.frames = some (X.env :: X.outer) := by rw [<- hst]; exact I.ok.frames
    refine wpAny_looks_onW hfr hfm fl fun h4 held4 up4 => ?_
    refine wpAny_landsW held4 fun h5 fl5 up5 => ?_
    have I5 := I1.land os bare un hok kB fl5.1 (up4.trans up5)
    have hH2 : H2 a = none := by
      cases z : H2 a with
      | none => rfl
      | some u =>
        obtain ⟨o, ho⟩ := ObjOk.has (hok a u z)
        have := kB a o (.inl (by rw [z]; exact fun y => (by cases y))) ho
        rw [fl.2.1] at this
        cases this
    have nfr : ∀ {h6 : Heap} {pn : List (Addr × Obj)} {σ6 : St}, Heap.FlyingW B (X.env :: X.outer) a (.ref C) (.ref t) h6 -> a ≠ X.env.locals /\ a ∉ X.fs := fun {h6 _ _} fl6 => by
      obtain ⟨oe, ws, e1, _, e2, _⟩ := fl6.first
      have : ∀ b ∈ (X.env :: X.outer).filterMap (·.frame), b ≠ a := fun b hb z => by
        obtain ⟨_, o, ho, nf⟩ := fl6.2.2.1.mem hb
        rw [z, e1] at ho
        cases ho
        exact nf ws e2
      constructor
      · exact fun z => this X.env.locals (List.mem_filterMap.mpr ⟨X.env, List.mem_cons_self, hfm⟩) z.symm
      · intro z
        obtain ⟨env, he1, he2⟩ := List.mem_filterMap.mp z
        exact this a (List.mem_filterMap.mpr ⟨env, List.mem_cons_of_mem _ he1, he2⟩) rfl
    obtain ⟨oe5, ws5, e5, c5, d5, _⟩ := fl5.first
    have I5h := I5.held e5 hH2 (nfr (pn := []) (σ6 := []) fl5).1 (nfr (pn := []) (σ6 := []) fl5).2 (fun v z => by rw [d5] at z; cases z)
    refine wpAny_handleBy_cons (codeAny_handlers_test (ZcU (X := X.held a oe5) I5h hl hlm ?_ hd2)) (by intro q; cases q)
    refine (PySem.W.exm_one I5.kIn (Zf2 e5 c5) hex).at ?_
    refine codeAny_handlers_suite_as ?_
    refine lands_againW fl5 fun h6 fl6 up6 => ?_
    have I6 := I1.land os bare un hok kB fl6.1 ((up4.trans up5).trans up6)
    obtain ⟨oe, ws, e6, c6, d6, _⟩ := fl6.first
    have I6h := I6.held e6 hH2 (nfr (pn := []) (σ6 := []) fl6).1 (nfr (pn := []) (σ6 := []) fl6).2 (fun v z => by rw [d6] at z; cases z)
    refine Zdv (X := X.held a oe) I6h hN hj (.inl hjs) (v := .ref a) rfl (fun s7 I7 => ?_) (.inr hjs)
    refine wpAny_mono (hs a oe c6 ⟨ws, d6⟩ pins s7 _ H2 _ I7 (hw a hH2)) (fun fl s8 q => ?_) (fun _ _ z => False.elim z)
    cases fl with
    | next =>
      obtain ⟨σ', H3, I8, q8⟩ := q
      obtain ⟨m, hnm, hlk⟩ := I8.loc
      refine wpAny_nameGoes_keeps hjl hnm (by rw [I.ok.kind]; rfl) fun h9 v hn9 hs9 => ?_
      exact ⟨σ'.set j none, H3, (Inv.unheld I.ok I8).unbound hN hj hnm hlk hn9 hs9, q8⟩
    | ret u => obtain ⟨_, _, _, _, _, z⟩ := q; exact z.elim
    | brk => obtain ⟨_, _, _, z⟩ := q; exact z.elim
    | cont => obtain ⟨_, _, _, z⟩ := q; exact z.elim
end
end L2
end
section
namespace L2
open PySem PySem.Spec PyProof.Rows PySem.W PySem.Builtin PySem.Builtin.ObjectAttr PySem.Builtin.Getset_descriptor PySem.Calls
structure ExcK (K : Frag) (C : Addr) : Prop where
 ga : findIn K (.ref C) "__getattribute__" = some (some (.builtin "BaseException.__getattribute__"))
 gh : findIn K (.ref C) "__getattr__" = some none
 fc : findIn K (.ref C) "__class__" = some (some (.builtin "object.__class__"))
 sg : specialIn K (.builtin "object.__class__") "__get__" = some (some (.builtin "getset_descriptor.__get__"))
 tk : takesIn K (.builtin "object.__class__") = some true
 mo : mroIn K C (.type "object") = some true
 mb : mroIn K C (.type "BaseException") = some true
 kc : kitCls K (.ref C) (.ref C) = some true
section
variable {prog : Program} {w : World} {A : Around} {E : Value -> Shared -> Prop} {s : Shared} {K : Frag} {a C : Addr} {oe : Obj}
theorem ZkV {M : Model} {h : Heap} (X : K.In h) (k : ExcK K C) : Looks M h (Builtin.ObjectAttr.find (.ref a) (.ref C) "__class__") (.bind (.builtin "getset_descriptor.__get__") (.builtin "object.__class__")) := by
 have q1 := looks_findIn (M := M) X k.fc
 have q2 := looks_specialIn (M := M) X k.sg
 have q3 := looks_takesIn (M := M) X k.tk
 unfold Builtin.ObjectAttr.find
 refine q1.andThen ?_
 refine Looks.andThen (a := some (Value.builtin "getset_descriptor.__get__")) (t := getOf (some (Value.builtin "object.__class__"))) ?_ ?_
 ·exact q2
 refine Looks.andThen (a := some (.builtin "getset_descriptor.__get__", .builtin "object.__class__")) ?_ (Looks.tag .now)
 refine q3.andThen ?_
 exact .now
theorem ZmM {tp : Value} {R : Result -> Shared -> Prop} (X : K.In s.heap) (e : s.heap.get? a = some oe) (c : oe.cls = .ref C) (k : ExcK K C) (h : R (.ok (.ret (.ref C))) s) :
  codeAny (model prog w) A (.call (.builtin "getset_descriptor.__get__") ⟨[.builtin "object.__class__", .ref a, tp], []⟩) R s := by
 obtain ⟨hh, g, dr, t, os⟩ := s
 have q0 := Zf2 (M := model prog w) e c
 have q1 := looks_mroIn (M := model prog w) X k.mo
 refine codeAny_call_builtin KF.slot_gs.plain KF.entry_gs ?_
 refine KF.slot_gs.check _ _ _ _ _ _ _ _ KF.type_class (KF.args_gs _ _ _) ?_
 unfold Builtin.«getset_descriptor.__get__»
 unfold descrGet
 rw [dga_obj]
 refine wpAny_bind (wpAny_pure ?_)
 unfold descrGetter
 unfold descrCheckInstance descrNameAndClass
 unfold isInstance
 simp only [KF.owner_class]
 repeat lk
 refine ⟨Code.quiet_builtin _ (by decide +kernel), ?_⟩
 refine codeAny_builtin KF.entry_class ?_
 unfold Builtin.«object.__class__»
 unfold shownTypeOf
 repeat lk
 exact h
theorem exc_ga {tk : Tok} {Q : Value -> Shared -> Prop} (X : K.In s.heap) (e : s.heap.get? a = some oe) (c : oe.cls = .ref C) (k : ExcK K C) (h : Q (.ref C) s) :
  wpAny (model prog w) A (call (.builtin "BaseException.__getattribute__") [.ref a, .str "__class__" tk]) Q E s := by
 obtain ⟨hh, g, d, t, os⟩ := s
 have q0 := Zf2 (M := model prog w) e c
 have q1 := looks_mroIn (M := model prog w) X k.mb
 have q2 := ZkV (M := model prog w) (a := a) X k
 have kd : builtinKind "BaseException.__getattribute__" = some .slot := by decide +kernel
 have sd : splitId "BaseException.__getattribute__" = some ("BaseException", "__getattribute__") := by decide +kernel
 refine wpAny_call ?_
 refine codeAny_call_builtin F.attr_ValueError.ga.plain F.entry_bexc_ga ?_
 have hA := F.args_bexc_ga (.ref a) (.str "__class__" tk)
 simp only [checkBuiltinCall, kd, sd]
 refine wpAny_bind ?_
 unfold isInstance
 repeat lk
 show wpAny _ _ (run (.call (.builtin "getset_descriptor.__get__") ⟨[.builtin "object.__class__", .ref a, .ref C], []⟩) none) _ _ _
 refine wpAny_run ?_
 exact ZmM (A := A.in1) X e c k (wpAny_pure (wpAny_pure h))
theorem Zjx {Q : Option Value -> Shared -> Prop} (X : K.In s.heap) (e : s.heap.get? a = some oe) (c : oe.cls = .ref C) (k : ExcK K C) (h : Q (some (.ref C)) { s with toks := s.toks + 1 }) :
  wpAny (model prog w) A (getAttr? (.ref a) "__class__") Q E s := by
 obtain ⟨hh, g, d, t, os⟩ := s
 have q0 := Zf2 (M := model prog w) e c
 have q1 := looks_findIn (M := model prog w) X k.ga
 have q2 := looks_findIn (M := model prog w) X k.gh
 unfold getAttr? getAttrBy? getAttrBy
 refine wpAny_bind (wpAny_mkText ?_)
 refine wpAny_bind (wpAny_attempt (wpAny_holding ?_))
 refine wpAny_bind (q0.at ?_)
 refine wpAny_bind (q1.at ?_)
 show wpAny _ _ (getAttrByItsOwn _ _ _ _ _ _) _ _ _
 unfold getAttrByItsOwn hookBefore
 refine wpAny_bind (q2.at ?_)
 refine wpAny_bind (wpAny_attempt (wpAny_holding ?_))
 show wpAny _ _ (boundAndCalled _ _ _) _ _ _
 unfold boundAndCalled
 refine wpAny_bind (wpAny_of_eq (F.attr_ValueError.ga.bind (.ref a)) ?_)
 refine exc_ga (s := ⟨hh, g, d, t + 1, os⟩) X e c k ?_
 exact handed_on rfl (wpAny_pure h)
theorem ZkU {cl : Value} {b : Bool} {dep : Int} {tk : Tok} {Q : Fin -> Shared -> Prop} (X : K.In s.heap) (e : s.heap.get? a = some oe) (c : oe.cls = .ref C) (k : ExcK K C) (kc : kitCls K (.ref C) cl = some b) (hb : b = false -> (Value.ref C == cl) = false)
    (h : ∀ t', Q (.done (.ret (.bool b))) { s with toks := t' }) : wpAny (model prog w) A (Builtin.«isinstance.nested» ⟨[.ref a, cl, .int dep tk], []⟩) Q E s := by
  obtain ⟨hh, g, d, t, os⟩ := s
  have q0 := Zf2 (M := model prog w) e c
  obtain ⟨q1, q2, q3⟩ := kit_cls (M := model prog w) X kc
  obtain ⟨_, q4, _⟩ := kit_cls (M := model prog w) X k.kc
  have q5 : Looks (model prog w) hh (isInstance (.ref a) cl) b := q0.andThen q3
  unfold Builtin.«isinstance.nested»
  refine wpAny_bind (q0.at ?_)
  by_cases he : (Value.ref C == cl) = true
  · have hbt : b = true := by
      cases b with
      | true => rfl
      | false => rw [hb rfl] at he; cases he
    subst hbt
    rw [if_pos he]
    refine wpAny_bind (wpAny_rule ?_)
    exact wpAny_pure (h t)
  · rw [if_neg he]
    refine wpAny_bind (q1.at ?_)
    rw [if_pos (by decide)]
    k_delta "plainIsInstance"
    refine wpAny_bind (wpAny_bind (q2.at ?_))
    simp only [if_false, Bool.not_true, Bool.false_eq_true]
    refine wpAny_bind (q5.at ?_)
    cases b with
    | true =>
      simp only [if_true]
      exact wpAny_pure (wpAny_pure (h t))
    | false =>
      simp only [if_false, Bool.false_eq_true]
      refine wpAny_bind (Zjx (s := ⟨hh, g, d, t, os⟩) X e c k ?_)
      refine wpAny_bind (q4.at ?_)
      simp only [if_false, Bool.not_true, Bool.false_eq_true]
      refine wpAny_bind (wpAny_rule ?_)
      refine q3.at ?_
      exact wpAny_pure (h (t + 1))
theorem Zjw {cl : Value} {b : Bool} {Q : Value -> Shared -> Prop} (X : K.In s.heap) (e : s.heap.get? a = some oe) (c : oe.cls = .ref C) (k : ExcK K C) (kc : kitCls K (.ref C) cl = some b) (hb : b = false -> (Value.ref C == cl) = false)
  (h : ∀ t', Q (.bool b) { s with toks := t' }) : wpAny (model prog w) A (call (.builtin "isinstance") [.ref a, cl]) Q E s :=
 call_isinstance_of (ZkU X e c k kc hb h) (by intro z; cases z)
end
end L2
end
section
namespace L2
open PySem PySem.Spec PyProof.Rows
noncomputable def spX1 (b : V -> Hp -> VK -> XK -> Prop) : Sp := fun vs H Q E => ∃ x, vs = [x] /\ b x H Q E
noncomputable def spX2 (b : V -> V -> Hp -> VK -> XK -> Prop) : Sp := fun vs H Q E => ∃ x y, vs = [x, y] /\ b x y H Q E
theorem Zlu {b : V -> Hp -> VK -> XK -> Prop} {x : V} {H : Hp} {Q : VK} {E : XK} (h : b x H Q E) : spX1 b [x] H Q E := ⟨x, rfl, h⟩
theorem useX2 {b : V -> V -> Hp -> VK -> XK -> Prop} {x y : V} {H : Hp} {Q : VK} {E : XK} (h : b x y H Q E) : spX2 b [x, y] H Q E := ⟨x, y, rfl, h⟩
structure CalleeX (P : Program) (w : World) (K : PySem.W.Frag) (mg : Str -> Option Value) (base : Heap) (C : Addr) (x : Str) (k : Nat) (ps : List Str) (sp : Sp) : Prop where
 ex : ∃ f fd, FnOk P w K mg base (Fly P w C) k f fd ps sp /\ mg x = some (.ref f) /\ PySem.W.keepIn K (.ref f) = true /\ Binds K fd ps []
section
variable {P : Program} {w : World} {K : PySem.W.Frag} {mg : Str -> Option Value} {base : Heap} {x : Str} {st : Stmt} {ps N : List Str} {sp : Sp} {k : Nat} {C : Addr}
noncomputable def Zk2 (P : Program) (w : World) (K : PySem.W.Frag) (mg : Str -> Option Value) (base : Heap) (C : Addr) (N : List Str) (x : Str) (st : Stmt) (f : Addr) (cdv : Value) (A : Around) (outer : List Env) (s : Shared) (H : Hp) (vs : List V) (Q : VK) (E : XK) : Prop :=
 ∃ t, PSs (cxOf (Fly P w C) P w K mg base N x (Zag st) f cdv A outer s H E) (Zay st) t /\ t { nx := fun _ H' => Q .non H', rt := Q } (Zc1 N vs) H
theorem TopFn.calleeX (T : TopFn K mg x st ps) (S : FnScope N ps (Zag st)) (len : ∀ vs H Q E, sp vs H Q E -> vs.length = ps.length)
  (h : ∀ (f : Addr) (cdv : Value) (A : Around) (outer : List Env) (s : Shared) (H : Hp) (vs : List V) (Q : VK) (E : XK), Room k (A.deeper (envOfC x (Zag st) s.heap.objs.size f cdv)) -> sp vs H Q E -> Zk2 P w K mg base C N x st f cdv A outer s H vs Q E) : CalleeX P w K mg base C x (k + 1) ps sp := by
 obtain ⟨f, fd, F, hm, hb⟩ := T.ex
 refine ⟨f, fd, ?_, hm, F.kp, hb⟩
 obtain ⟨oc, od, kV, doc, pm, an, cdv, ct, osl, rfl, lk, hcd⟩ := F.ex
 exact fn_of lk hcd S len fun A outer s H vs Q E hr hsp => h f cdv A outer s H vs Q E hr hsp
theorem TopFn.okX1 {a1 : Str} {b : V -> Hp -> VK -> XK -> Prop} (T : TopFn K mg x st [a1]) (S : FnScope N [a1] (Zag st))
  (h : ∀ (f : Addr) (cdv : Value) (A : Around) (outer : List Env) (s : Shared) (H : Hp) (v1 : V) (Q : VK) (E : XK), Room k (A.deeper (envOfC x (Zag st) s.heap.objs.size f cdv)) -> b v1 H Q E -> Zk2 P w K mg base C N x st f cdv A outer s H [v1] Q E) : CalleeX P w K mg base C x (k + 1) [a1] (spX1 b) :=
 T.calleeX S (fun vs H Q E ⟨_, e, _⟩ => by rw [e]; rfl) fun f cdv A outer s H vs Q E hr hsp => by
  obtain ⟨v1, rfl, hb⟩ := hsp
  exact h f cdv A outer s H v1 Q E hr hb
theorem TopFn.okX2 {a1 a2 : Str} {b : V -> V -> Hp -> VK -> XK -> Prop} (T : TopFn K mg x st [a1, a2]) (S : FnScope N [a1, a2] (Zag st))
  (h : ∀ (f : Addr) (cdv : Value) (A : Around) (outer : List Env) (s : Shared) (H : Hp) (v1 v2 : V) (Q : VK) (E : XK), Room k (A.deeper (envOfC x (Zag st) s.heap.objs.size f cdv)) -> b v1 v2 H Q E -> Zk2 P w K mg base C N x st f cdv A outer s H [v1, v2] Q E) : CalleeX P w K mg base C x (k + 1) [a1, a2] (spX2 b) :=
 T.calleeX S (fun vs H Q E ⟨_, _, e, _⟩ => by rw [e]; rfl) fun f cdv A outer s H vs Q E hr hsp => by
  obtain ⟨v1, v2, rfl, hb⟩ := hsp
  exact h f cdv A outer s H v1 v2 Q E hr hb
theorem ZdJ {f : Addr} {cdv : Value} {A : Around} {outer : List Env} {s : Shared} {H : Hp} {vs : List V} {Q : VK} {E : XK} {t : TS} (σ : St) (hσ : Zc1 N vs = σ) (h : PSs (cxOf (Fly P w C) P w K mg base N x (Zag st) f cdv A outer s H E) (Zay st) t)
  (q : t { nx := fun _ H' => Q .non H', rt := Q } σ H) : Zk2 P w K mg base C N x st f cdv A outer s H vs Q E := ⟨t, h, by rw [hσ]; exact q⟩
theorem Zka {E : XK} {t : TA} {D : Ends} {σ : St} {H : Hp} (h : t σ H fun vs H1 => vs.length <= 1000 /\ E (.ref C) none H1) : Zk5 E C t D σ H := h
end
theorem ZiX {P : Program} {w : World} {K : PySem.W.Frag} {mg : Str -> Option Value} {base : Heap} {C : Addr} {N : List Str} {qual : Str} {scope : Scope} {f : Addr} {cd : Value} {A : Around} {outer : List Env} {s : Shared} {H : Hp} {E : XK} {x : Str} {k : Nat} {ps : List Str} {sp : Sp} {p pos : Pos} {e : Expr} {es : List Expr} {t : TA}
  (Cx : CalleeX P w K mg base C x k ps sp) (hr : Room k (A.deeper (envOfC qual scope s.heap.objs.size f cd))) (hg : Gl (cxOf (Fly P w C) P w K mg base N qual scope f cd A outer s H E) x) (ha : PA (cxOf (Fly P w C) P w K mg base N qual scope f cd A outer s H E) (e :: es) t) (hdb : (x == ("__debug__" : Str)) = false := by decide)
  (he : starEach (e :: es) (cxOf (Fly P w C) P w K mg base N qual scope f cd A outer s H E).env = (false, eval e (cxOf (Fly P w C) P w K mg base N qual scope f cd A outer s H E).env) :: starEach es (cxOf (Fly P w C) P w K mg base N qual scope f cd A outer s H E).env := by rfl)
  (hpl : (backTo pos (starEach es (cxOf (Fly P w C) P w K mg base N qual scope f cd A outer s H E).env)).any (·.1) = false := by rfl) :
  PE (cxOf (Fly P w C) P w K mg base N qual scope f cd A outer s H E) (.Call (.Name x p) (e :: es) [] pos) (Zer sp [] E t) := by
 obtain ⟨f', fd, F, hm, hk, hb⟩ := Cx.ex
 exact ZgJ F hr hg hm hk hb .nil Zkz ha hdb he hpl
section
variable {X : Cx} {C : Addr}
theorem Zmh {i j k : Nat} {L : Addr} {ps : List Str} {sp : Sp} {fn x lx n : Str} {px p1 p2 p3 np hp pos : Pos} {e1 : Expr} {es : List Expr} {ta : TA} {th : Addr -> TS} {b0 : Stmt} {suite : List Stmt}
  (Cc : CalleeX X.prog X.w X.K X.mg X.base C fn k ps sp) (hr : Room k X.A) (hst : X.stack = X.env :: X.outer) (hfm : X.env.frame = some X.env.locals) (hN : X.N.Nodup) (hi : X.N[i]? = some x) (hx : Loc X.env.scope x) (hf : X.fn x = true \/ X.env.scope.names.lookup x = some .local) (hj : X.N[j]? = some n) (hjl : X.env.kindOf n = some .local) (hjs : X.env.scope.names.lookup n = some .local)
  (hg : Gl X fn) (ha : PA X.nox (e1 :: es) ta) (hl : Gl X lx) (hlm : X.mg lx = some (.ref L)) (hex : PySem.W.exmOne X.K (.ref C) (.ref L) = some true)
  (hs : ∀ (a : Addr) (oe : Obj), oe.cls = .ref C -> (∃ vs, oe.data = .fields vs) -> PSs (X.held a oe) (b0 :: suite) (th a))
  (hsw : swapsWith (.Call (.Name fn p1) (e1 :: es) [] p2) (some (.Name x px)) p3.line X.env = pure false := by rfl)
  (hd : (fn == ("__debug__" : Str)) = false := by decide) (hd2 : (lx == ("__debug__" : Str)) = false := by decide) (he : starEach (e1 :: es) X.env = (false, eval e1 X.env) :: starEach es X.env := by rfl) (hpl : (backTo p2 (starEach es X.env)).any (·.1) = false := by rfl) :
  PS X (.Try [.Assign [.Name x px] (.Call (.Name fn p1) (e1 :: es) [] p2) p3] [.ExceptHandler (some (.Name lx np)) (some n) (b0 :: suite) hp] [] [] pos) (Zlx i j sp ta th) := by
 obtain ⟨f, fd, F, hm, hk, hb⟩ := Cc.ex
 exact Zmg hst hfm hN hi hx hf hj hjl hjs F hr hg hm hk hb ha hl hlm hex hs hsw hd hd2 he hpl
theorem ZlD {i j : Nat} {sp : Sp} {ta : TA} {th : Addr -> TS} {D : Ends} {σ : St} {H : Hp} (h : ta σ H fun vs H1 => sp vs H1 (fun v H2 => D.nx (σ.set i (some v)) H2)
 (fun _ _ H2 => ∀ a, H2 a = none -> th a { nx := fun σ' H3 => D.nx (σ'.set j none) H3, rt := fun _ _ => False } (σ.set j (some (.ref a))) H2)) : Zlx i j sp ta th D σ H := h
noncomputable def rIsX (K : PySem.W.Frag) (C a : Addr) : List V -> Hp -> VK -> Prop := fun xs H Q => (∃ L b, xs = [.ref a, .ref L] /\ PySem.W.kitCls K (.ref C) (.ref L) = some b /\ (b = false -> (Value.ref C == Value.ref L) = false) /\ Q (.bl b) H) \/ ∃ T b, xs = [.ref a, .ty T] /\ PySem.W.kitCls K (.ref C) (.type T) = some b /\ Q (.bl b) H
theorem ZdN {a : Addr} {oe : Obj} {K : PySem.W.Frag} (hK : X.K = K) (hc : oe.cls = .ref C) (k : ExcK K C) : Zct (X.held a oe) (.builtin "isinstance") (rIsX K C a) := by
 subst hK
 intro pins s σ H xs us Q I r h
 have hp := I.pin (a, oe) (List.mem_append_left _ (show (a, oe) ∈ (a, oe) :: X.pn from List.mem_cons_self))
 rcases h with ⟨L, b, rfl, kc, hb, q⟩ | ⟨T, b, rfl, kc, q⟩
 ·obtain ⟨u, v, rfl, ru, rv⟩ := r.two
  cases ru
  cases rv
  exact Zjw I.kIn hp.1 hc k kc hb fun t' => ⟨.bl b, H, I.tok _, rfl, q⟩
 ·obtain ⟨u, v, rfl, ru, rv⟩ := r.two
  cases ru
  cases rv
  exact Zjw I.kIn hp.1 hc k kc (fun _ => rfl) fun t' => ⟨.bl b, H, I.tok _, rfl, q⟩
theorem ZiI {K : PySem.W.Frag} {a L : Addr} {b : Bool} {H : Hp} {Q : VK} (kc : PySem.W.kitCls K (.ref C) (.ref L) = some b) (hb : b = false -> (Value.ref C == Value.ref L) = false) (q : Q (.bl b) H) : rIsX K C a [.ref a, .ref L] H Q := .inl ⟨L, b, rfl, kc, hb, q⟩
theorem ZlY {K : PySem.W.Frag} {a : Addr} {T : String} {b : Bool} {H : Hp} {Q : VK} (kc : PySem.W.kitCls K (.ref C) (.type T) = some b) (q : Q (.bl b) H) : rIsX K C a [.ref a, .ty T] H Q := .inr ⟨T, b, rfl, kc, q⟩
end
end L2
end
section
namespace L2
open PySem PySem.Spec PyProof.Rows
section
variable {M : Model} {A : Around} {E : Value -> Shared -> Prop} {s : Shared}
theorem Zi8 {e : Value} {env env' : Env} (h : env'.frame = env.frame) : noteFrame e env' = noteFrame e env := by
 unfold noteFrame PySem.frameOf
 rw [h]
theorem ZeP {h B B' : Heap} (k : ∀ b, B.get? b = none -> B'.get? b = none) : ∀ {l : List Env}, h.FunFrames B l -> h.FunFrames B' l
 | [], _ => trivial
 | _ :: _, ⟨a, ⟨L, o, f1, f2, f3⟩, r⟩ => ⟨a, ⟨L, o, f1, k _ f2, f3⟩, ZeP k r⟩
noncomputable def Zg6 (B : Heap) (l : List Env) (e : Addr) (cls a0 fl : Value) (h : Heap) : Prop := B.StaysIn h /\ B.get? e = none /\ h.FunFrames B l /\ h.TracedAtW B e cls a0 fl
theorem Zjt {B B' h : Heap} {l : List Env} {e : Addr} {cls a0 fl : Value} (x : Zg6 B l e cls a0 fl h) (k : ∀ b o, B'.get? b = some o -> B.get? b = some o) : Zg6 B' l e cls a0 fl h := by
 have kn : ∀ b, B.get? b = none -> B'.get? b = none := fun b hb => by
  cases q : B'.get? b with
  | none => rfl
  | some o => rw [k b o q] at hb; cases hb
 obtain ⟨x1, x2, x3, oe, vs, T, oT, ts, q1, q2, q3, q4, q5, q6⟩ := x
 exact ⟨fun b o hb => x1 b o (k b o hb), kn _ x2, ZeP kn x3, oe, vs, T, oT, ts, q1, q2, q3, q4, kn _ q5, q6⟩
theorem ZkR {B h h' : Heap} {l : List Env} {e C : Addr} {cls a0 fl : Value} {m : Str -> Option Value} (x : Zg6 B l e cls a0 fl h) (hC : B.get? C = none) (hn : h.Ns C m) (hl : C ∉ l.filterMap (·.frame)) (sb : Heap.SameBut C h h') : Zg6 B l e cls a0 fl h' := by
  obtain ⟨x1, x2, x3, oe, vs, T, oT, ts, q1, q2, q3, q4, q5, q6, q7, q8, q9⟩ := x
  obtain ⟨oc, es, ep, c1, c2, _⟩ := hn
  have nf : ∀ {b : Addr} {o : Obj} {ws : Array Value}, h.get? b = some o -> o.data = .fields ws -> b ≠ C := fun {b o ws} u v z => by
    rw [z, c1] at u
    cases u
    rw [c2] at v
    cases v
  refine ⟨fun b o hb => (sb.2 b (fun z => by rw [z, hC] at hb; cases hb)).trans (x1 b o hb), x2, ?_, oe, vs, T, oT, ts, (sb.2 e (nf q1 q3)).trans q1, q2, q3, q4, q5, q6, (sb.2 T (nf q7 q8)).trans q7, q8, q9⟩
  clear q1 q2 q3 q4 q5 q6 q7 q8 q9
  induction l with
  | nil => trivial
  | cons env r ih =>
    obtain ⟨y1, ⟨L, o, y2, y3, y4, y5⟩, y6⟩ := x3
    have hm : L ∈ (env :: r).filterMap (·.frame) := List.mem_filterMap.mpr ⟨env, List.mem_cons_self, y2⟩
    refine ⟨y1, ⟨L, o, y2, y3, (sb.2 L (fun z => hl (z ▸ hm))).trans y4, y5⟩, ih (fun z => hl ?_) y6⟩
    obtain ⟨e1, m1, m2⟩ := List.mem_filterMap.mp z
    exact List.mem_filterMap.mpr ⟨e1, List.mem_cons_of_mem _ m1, m2⟩
theorem ZkA {B : Heap} {l : List Env} {e : Addr} {cls a0 fl : Value} {what : String} {cenv : Env} {Q : Value -> Shared -> Prop} (hh : Zg6 B l e cls a0 fl s.heap)
  (hQ : ∀ h' fl', Zg6 B l e cls a0 fl' h' -> s.heap.UpToSlots h' -> E (.ref e) { s with heap := h' }) : wpAny M A (PySem.passOn what (.ref e) cenv : Sem Value) Q E s := by
 obtain ⟨x1, x2, x3, oe, vs, T, oT, ts, q1, q2, q3, q4, q5, q6, q7, q8, q9⟩ := hh
 have hz : 3 < ts.size := (Array.getElem?_eq_some_iff.mp q9).1
 unfold PySem.passOn
 refine wpAny_bind (wpAny_field q1 q3 q4 ?_)
 rw [if_neg (show ¬ (Value.ref T == Value.none) = true by simp)]
 have go : wpAny M A (setFlight (.ref e) cenv.frame) (fun _ s' => wpAny M A (throw (.ref e) : Sem Value) Q E s') E s := by
  unfold setFlight
  refine wpAny_bind (wpAny_field q1 q3 q4 ?_)
  rw [if_pos (show (Value.ref T != Value.none) = true by simp)]
  refine wpAny_setField q7 q8 hz (wpAny_throw (hQ _ (cenv.frame.elim .none fun f => rawInt f) ?_ ?_))
  ·have oth : ∀ b, b ≠ T -> (s.heap.update T (Obj.mapFields (·.setIfInBounds 3 (cenv.frame.elim Value.none fun f => rawInt f)))).get? b = s.heap.get? b := fun b hb => Heap.get?_update_other _ _ (Ne.symm hb)
   have nT : ∀ b o, s.heap.get? b = some o -> (∀ ws, o.data ≠ .fields ws) -> b ≠ T := fun b o hb hn z => by
    rw [z, q7] at hb
    cases hb
    exact hn ts q8
   refine ⟨fun b o hb => (oth b (fun z => by rw [z, q5] at hb; cases hb)).trans (x1 b o hb), x2, x3.of_keeps fun b o hb hn => ⟨o, (oth b (nT b o hb hn)).trans hb, rfl⟩,
    oe, vs, T, _, _, (oth e (Ne.symm q6)).trans q1, q2, q3, q4, q5, q6, Heap.get?_update_self _ q7 (Obj.isFreed_of_fields (Obj.data_mapFields q8 _)), Obj.data_mapFields q8 _, by simp [hz]⟩
  ·intro b o hb hn
   refine ⟨o.slots, (Heap.get?_update_other _ _ (fun z => ?_)).trans hb⟩
   rw [<- z, q7] at hb
   cases hb
   exact hn ts q8
 first
  | exact wpAny_bind (wpAny_pure (wpAny_bind go))
  | exact wpAny_bind go
theorem ZhV {B : Heap} {env : Env} {outer : List Env} {L e : Addr} {cls a0 fl : Value} {Q : Unit -> Shared -> Prop} (hfr : A.frames = some (env :: outer)) (hf : env.frame = some L)
  (hh : Zg6 B (env :: outer) e cls a0 fl s.heap) (hQ : ∀ h', Heap.FlyingW B outer e cls a0 h' -> s.heap.UpToSlots h' -> Q () { s with heap := h' }) : wpAny M A (leaving env (.ref e)) Q E s := by
 by_cases hb : fl = rawInt L
 ·subst hb
  unfold leaving
  refine wpAny_bind (wpAny_noteFrame_againW hf hh.2.2.2 ?_)
  refine wpAny_landsW (l := env :: outer) hh fun h' x up => hQ h' ⟨x.1, x.2.1, x.2.2.1.2.2, x.2.2.2⟩ up
 ·obtain ⟨x1, x2, x3, oe, vs, T, oT, ts, q1, ⟨q2, q2'⟩, q3, q4, q5, q6, q7, q8, q9⟩ := hh
  subst q2
  unfold leaving noteFrame
  simp only [hf]
  refine wpAny_bind (wpAny_bind (wpAny_field q1 q3 q4 ?_))
  rw [if_pos (show (Value.ref T != Value.none) = true by simp)]
  refine wpAny_bind (wpAny_field q7 q8 q9 ?_)
  rw [if_neg (show ¬ (fl == rawInt L) = true by simpa using hb)]
  refine wpAny_bind (wpAny_setField q7 q8 (Array.getElem?_eq_some_iff.mp q9).1 ?_)
  have oth : ∀ b, b ≠ T -> (s.heap.update T (Obj.mapFields (·.setIfInBounds 3 Value.none))).get? b = s.heap.get? b := fun b hb => Heap.get?_update_other _ _ (Ne.symm hb)
  have nT : ∀ b o, s.heap.get? b = some o -> (∀ ws, o.data ≠ .fields ws) -> b ≠ T := fun b o hb hn z => by
   rw [z, q7] at hb
   cases hb
   exact hn ts q8
  refine wpAny_newEntryW hfr (x3.of_keeps fun b o hb hn => ⟨o, (oth b (nT b o hb hn)).trans hb, rfl⟩) hf ((oth e (Ne.symm q6)).trans q1) (fun b o hb => (oth b (fun z => by rw [z, q5] at hb; cases hb)).trans (x1 b o hb)) x2 q3
   (Array.getElem?_eq_some_iff.mp q4).1 q2' fun h' ⟨y1, y2, y3, y4⟩ => hQ h' ⟨y1, x2, y2.2.2, y3⟩ fun b o hb hn => y4 b o ((oth b (nT b o hb hn)).trans hb) hn
end
section
variable {P : Program} {w : World} {K : PySem.W.Frag} {mg : Str -> Option Value} {base : Heap} {C : Addr} {N : List Str} {qual : Str} {scope : Scope} {f : Addr} {cd : Value} {A : Around} {outer : List Env} {s : Shared} {H : Hp} {E : XK}
theorem Zmq {LN FN : List Str} {sc : Scope} {cl : List (Str × Addr)} {D : Addr} {fp : List Addr} {pins : List (Addr × Obj)} {s2 : Shared} {H2 : Hp} (hin : BkIn (cxOf (Fly P w C) P w K mg base N qual scope f cd A outer s H E) D fp pins s2 H2) :
    Ze1 (Fly P w C) (bkX (cxOf (Fly P w C) P w K mg base N qual scope f cd A outer s H E) LN FN sc cl D fp pins s2 H2) E := by
  intro pl σ1 H1 s1 e s3 I h
  obtain ⟨a, H3, B, t, rfl, os, bare, un, hok, fl, kB, he⟩ := h
  obtain ⟨⟨σ0, I0⟩, f2, hC⟩ := hin
  have I := I.unwish
  show wpAny _ _ (noteFrame (.ref a) (compEnvC sc cl D (envOfC qual scope s.heap.objs.size f cd))) _ _ s3
  rw [Zi8 (env := envOfC qual scope s.heap.objs.size f cd) (env' := compEnvC sc cl D (envOfC qual scope s.heap.objs.size f cd)) rfl]
  refine wpAny_looks_onW I0.ok.frames rfl fl fun h4 held4 up4 => ?_
  have I4b := I.land os bare un hok kB held4.1 up4
  have I4 := I0.call' (s' := { s3 with heap := h4 }) (ch := fp) I4b.os I4b.base I4b.hok I4b.bare fun b hb => by
    obtain ⟨_, n1, n2, n3, n4, n5⟩ := f2 b hb
    exact ⟨n3, n1, n4, n5⟩
  have nD : H3 D = none := I4b.free
  have fD := I0.fpOk (H' := H3) hC nD
  obtain ⟨m, hn, _⟩ := I4b.loc
  refine ⟨m, hn, fun h5 sb cenv _ => ?_⟩
  have hn : h4.Ns D m := hn
  have hd5 := ZkR (Zjt held4 (fun b o (q : (B.hide D).get? b = some o) => Heap.of_hide q)) (Heap.hide_self B D) hn (fun z => (List.mem_cons.mp (I0.stkSub D z)).elim fD.2.1 fD.2.2.1) sb
  have I5 := I4.turned (h' := h5) (t' := s3.toks) (fun b o hb e => (sb.2 b hb).trans e) nD fD.2.1 fD.2.2.2.1 fD.2.2.2.2.1 fD.2.2.2.2.2
  refine ZkA (s := { s3 with heap := h5 }) hd5 fun h6 fl6 hd6 up6 => ?_
  refine ZhV (s := { s3 with heap := h6 }) I0.ok.frames rfl hd6 fun h7 fl7 up7 => ?_
  refine (fun r => r : Fly P w C outer H s E (.ref a) { s3 with heap := h7 } -> Fly P w C outer H s E (.ref a) { s3 with heap := h7 }) ?_
  refine Zi1 (s1 := { s3 with heap := h5 }) I5 (fun b o hb q => ?_) fl7 (up6.trans up7) he
  have lt : ∀ {b : Addr}, s.heap.get? b ≠ none -> b < s.heap.objs.size := fun {b} hb => by
    cases z : s.heap.get? b with
    | none => exact absurd z hb
    | some u => exact Heap.lt_size z
  have nbD : b ≠ D := by
    rintro rfl
    rcases hb with hb | ⟨hb, _⟩
    · exact hb nD
    · exact absurd (lt hb) (Nat.not_lt.mpr (Nat.le_trans I0.sz hC))
  rw [Heap.hide_ne _ nbD]
  have q4 : h4.get? b = some o := (sb.2 b nbD).symm.trans q
  have hb' : H3 b ≠ none \/ (s1.heap.get? b ≠ none /\ b ∉ frs (envOfC qual scope s.heap.objs.size f cd :: outer)) := by
    rcases hb with hb | ⟨hb, hn⟩
    · exact .inl hb
    · refine .inr ⟨?_, ZeF hb hn⟩
      cases z : s.heap.get? b with
      | none => exact absurd z hb
      | some u =>
        obtain ⟨o1, z1⟩ := I0.base.there b u z (show b ∉ ([] : List Addr) by simp)
        obtain ⟨o2, z2⟩ := I.base.there b o1 z1 (fun hm => by
          rcases (f2 b hm).2.2.2.1 with z' | z'
          · exact absurd z' (show b ∉ ([] : List Addr) by simp)
          · exact absurd (lt hb) (Nat.not_lt.mpr z'))
        rw [z2]
        exact fun z => by cases z
  have h3 : ∃ o3, s3.heap.get? b = some o3 := by
    rcases hb' with hb | ⟨hb, _⟩
    · cases z : H3 b with
      | none => exact absurd z hb
      | some u => exact ObjOk.has (hok b u z)
    · cases z : s1.heap.get? b with
      | none => exact absurd z hb
      | some u => exact un.there b u z (by simp)
  obtain ⟨o3, z3⟩ := h3
  have h1 := kB b o3 hb' z3
  have h2 := held4.1 b o3 h1
  rw [q4] at h2
  cases h2
  exact h1
end
end L2
end
section
namespace L2
open PySem PySem.Spec PyProof.Rows
section
variable {X : Cx} {tg elt iter : Expr} {ifs : List Expr} {sc : Scope} {pos : Pos} {LN FN : List Str} {fr : List Nat} {wi : TI} {g : TG} {tt : TT} {te : TE}
theorem Zkq {i : Nat} {x : Str} {pos' pos2 : Pos} (hc : X.calm = true) (hN : X.N.Nodup) (hix : X.N[i]? = some x) (hx : X.env.scope.names.lookup x = some .local) (S : BkScope X.N sc X.env.scope LN FN fr) (hi : PI X tg iter wi)
  (hg : ∀ cl C fp pins s H, PG (bkCx X LN FN sc cl C fp pins s H) tg g) (ht : ∀ cl C fp pins s H, PTs (bkCx X LN FN sc cl C fp pins s H) ifs tt) (he : ∀ cl C fp pins s H, BkIn X C fp pins s H -> PE (bkX X LN FN sc cl C fp pins s H) elt te)
  (hsw : swapsWith (.ListComp elt [⟨tg, iter, ifs, 0⟩] sc pos) (some (.Name x pos')) pos2.line X.env = pure true := by rfl)
  (hs : ∀ x, foldedSetIterable iter X.env x = pure x := by intro _; rfl) : PS X (.Assign [.Name x pos'] (.ListComp elt [⟨tg, iter, ifs, 0⟩] sc pos) pos2) (tAsg (Zj5 LN fr wi g tt te) (Zdl i)) := by
 intro pins s σ H D0 I h
 rw [exec_Assign_Name_used _ _ _ _ hsw]
 refine wpAny_bind (wpAny_standAt (wpAny_bind ?_))
 show wpAny _ X.A (do let _ <- comprehension (.ListComp elt [⟨tg, iter, ifs, 0⟩] sc pos) sc X.env _ (newList []) false (eval iter X.env) (some (assign (.Name x pos') X.env))) _ _ s
 obtain ⟨cl, ecl, h1, h2⟩ := ZdV (scope := sc) (env := X.env) fun y hy hk => I.ok.has y.1 (S.free y hy hk)
 refine wpAny_bind (wpAny_mono (wpAny_comprehension_free (use := some (assign (.Name x pos') X.env)) (Q := fun _ s' => SP X pins D0 .next s') rfl hs ecl S.kind S.names (thn (hi pins s σ H _ I h) fun v s1 q1 => thn q1 fun itv s2 q2 => ?_))
  (fun _ s' hq => wpAny_pure (wpAny_pure hq)) fun _ _ e => e)
 obtain ⟨it, fp, tn, J, H2, e, I2, T, st2, f2, W, ⟨m0, w0⟩, turn⟩ := q2
 subst e
 refine Zg1 (R := fun acc C => compPost (model X.prog X.w) X.A X.xe (some (assign (.Name x pos') X.env)) (fun _ s' => SP X pins D0 .next s') acc C) hc S hg ht he h1 h2 I2 T st2 f2 w0 turn (fun D C s' H' ys m hn J fC q => ?_) (fun _ _ _ _ z => z)
 show wpAny _ X.A (assign (.Name x pos') X.env (.ref D)) _ _ s'
 refine wpAny_assign_Name (Zes J hN hix (.inl hx) (show RelV (.ref D) (.ref D) from rfl) (fun s'' J2 ⟨a, sb2, ha⟩ => ?_) (.inr hx))
 have nCa : C ≠ a := by
  rcases ha with z | z
  ·rw [z]; exact fC.2.1
  ·exact fun q => fC.2.2.2.2.1 x a z q.symm
 refine ⟨m, hn.sameBut sb2 nCa, fun h' sb => ⟨_, _, J2.turned (t' := s''.toks) (fun b o hb e => (sb.2 b hb).trans e) fC.1 fC.2.1 fC.2.2.2.1 fC.2.2.2.2.1 fC.2.2.2.2.2, q⟩⟩
end
theorem Zmm {P : Program} {w : World} {K : PySem.W.Frag} {mg : Str -> Option Value} {base : Heap} {C : Addr} {N : List Str} {qual : Str} {scope : Scope} {f : Addr} {cd : Value} {A : Around} {outer : List Env} {s : Shared} {H : Hp} {E : XK} {x : Str} {k : Nat} {ps : List Str} {sp : Sp} {p pos : Pos} {e : Expr} {es : List Expr} {t : TA}
  {LN FN : List Str} {sc : Scope} {cl : List (Str × Addr)} {D : Addr} {fp : List Addr} {pins : List (Addr × Obj)} {s2 : Shared} {H2 : Hp} (hin : BkIn (cxOf (Fly P w C) P w K mg base N qual scope f cd A outer s H E) D fp pins s2 H2)
  (Cx : CalleeX P w K mg base C x k ps sp) (hr : Room k (A.deeper (envOfC qual scope s.heap.objs.size f cd))) (hg : Gl (bkX (cxOf (Fly P w C) P w K mg base N qual scope f cd A outer s H E) LN FN sc cl D fp pins s2 H2) x) (ha : PA (bkX (cxOf (Fly P w C) P w K mg base N qual scope f cd A outer s H E) LN FN sc cl D fp pins s2 H2) (e :: es) t) (hdb : (x == ("__debug__" : Str)) = false := by decide)
  (he : starEach (e :: es) (bkX (cxOf (Fly P w C) P w K mg base N qual scope f cd A outer s H E) LN FN sc cl D fp pins s2 H2).env = (false, eval e (bkX (cxOf (Fly P w C) P w K mg base N qual scope f cd A outer s H E) LN FN sc cl D fp pins s2 H2).env) :: starEach es (bkX (cxOf (Fly P w C) P w K mg base N qual scope f cd A outer s H E) LN FN sc cl D fp pins s2 H2).env := by rfl)
  (hpl : (backTo pos (starEach es (bkX (cxOf (Fly P w C) P w K mg base N qual scope f cd A outer s H E) LN FN sc cl D fp pins s2 H2).env)).any (·.1) = false := by rfl) :
  PE (bkX (cxOf (Fly P w C) P w K mg base N qual scope f cd A outer s H E) LN FN sc cl D fp pins s2 H2) (.Call (.Name x p) (e :: es) [] pos) (Zer sp [] E t) := by
 obtain ⟨f', fd, F, hm, hk, hb⟩ := Cx.ex
 exact ZgJ F hr hg hm hk hb .nil (Zmq hin) ha hdb he hpl
end L2
end
section
namespace L2
open PySem PySem.Spec PyProof.Rows PySem.Builtin PySem.Builtin.Str PySem.NumText
section
variable {X : Cx}
noncomputable def ZiS : R2 := fun x y H Q => ∃ i j, x = .str i /\ y = .str j /\ Q (.bl (!(!(Builtin.Str.occurrences j i 0 j.length 1).isEmpty))) H
theorem Zi2 : OpR X (compareOp .NotIn) ZiS := by
 intro pins s σ H x y v u Q I rx ry h
 obtain ⟨i, j, rfl, rfl, q⟩ := h
 obtain ⟨t, rfl⟩ := rx
 obtain ⟨t', rfl⟩ := ry
 exact PySem.P.notIn_str ⟨.bl _, H, I, rfl, q⟩
theorem ZhP {c : Nat} {z : Str} {H : Hp} {Q : VK} (q : Q (.bl (!decide (c ∈ z.cps.toList))) H) : ZiS (.str ⟨#[c]⟩) (.str z) H Q := ⟨_, _, rfl, rfl, by rw [StrLaws.found_one]; exact q⟩
end
noncomputable def Zbl (z : Str) : Prop := z.cps.all (· < 128) = true
theorem asc_mem {z : Str} : Zbl z ↔ ∀ c ∈ cs z, c < 128 := by
 unfold Zbl
 rw [<- Array.all_toList, List.all_eq_true]
 simp
theorem Zcq {x y : Str} (h1 : Zbl x) (h2 : Zbl y) : Zbl (x ++ y) := asc_mem.mpr fun c hc => by
 rw [Zbc] at hc
 rcases List.mem_append.mp hc with z | z
 ·exact asc_mem.mp h1 c z
 ·exact asc_mem.mp h2 c z
theorem Zir {z : Str} {l u : Option Int} : ∀ c ∈ cs (Txt.slice z l u), c ∈ cs z := by
 intro c hc
 unfold Txt.slice at hc
 split at hc
 ·exact hc
 ·obtain ⟨i, _, e⟩ := List.mem_filterMap.mp (show c ∈ List.filterMap _ _ from hc)
  exact Array.mem_toList_iff.mpr (Array.mem_of_getElem? e)
theorem ZjP {z : Str} {l u : Option Int} (h : Zbl z) : Zbl (Txt.slice z l u) := asc_mem.mpr fun c hc => asc_mem.mp h c (Zir c hc)
theorem Zhh (a : Array Nat) : ∀ (k : Nat) (acc : Array Nat), ((List.replicate k a).foldl (· ++ ·) acc).toList = acc.toList ++ (List.replicate k a.toList).flatten
  | 0, acc => by simp
  | k + 1, acc => by
    rw [List.replicate_succ, List.foldl_cons, Zhh a k (acc ++ a), List.replicate_succ, List.flatten_cons]
    simp
theorem Zd9 (l : List Nat) : ∀ k, ((List.replicate k l).flatten).length = k * l.length
  | 0 => by simp
  | k + 1 => by
    rw [List.replicate_succ, List.flatten_cons, List.length_append, Zd9 l k, Nat.succ_mul]
    lia
theorem ZiC (z : Str) (n : Int) : (∀ c ∈ cs (repS z n), c ∈ cs z) /\ (repS z n).length <= n.toNat * z.length := by
 unfold repS
 split
 ·exact ⟨fun c hc => (by cases hc), Nat.zero_le _⟩
 ·next h1 =>
  split
  ·refine ⟨fun c hc => hc, ?_⟩
   have : 1 <= n.toNat := by lia
   calc z.length = 1 * z.length := (Nat.one_mul _).symm
    _ <= n.toNat * z.length := Nat.mul_le_mul_right _ this
  ·have e : cs (⟨(List.replicate n.toNat z.cps).foldl (· ++ ·) #[]⟩ : Str) = (List.replicate n.toNat (cs z)).flatten := by
    show ((List.replicate n.toNat z.cps).foldl (· ++ ·) #[]).toList = _
    rw [Zhh]
    simp
   refine ⟨fun c hc => ?_, ?_⟩
   ·rw [e] at hc
    obtain ⟨l, hl, hc⟩ := List.mem_flatten.mp hc
    rw [(List.mem_replicate.mp hl).2] at hc
    exact hc
   ·rw [<- ZaO, e, Zd9, ZaO]
    exact Nat.le_refl _
theorem Zg3 {z : Str} {n : Int} (h : Zbl z) : Zbl (repS z n) := asc_mem.mpr fun c hc => asc_mem.mp h c ((ZiC z n).1 c hc)
theorem Zez {z : Str} {n : Int} {H : Hp} {Q : VK} (h1 : -1000 <= n) (h2 : n <= 1000) (h3 : z.length <= 1000) (q : (repS z n).length <= n.toNat * z.length -> Q (.str (repS z n)) H) : rRepS (.str z) (.int n) H Q := by
 have h4 := (ZiC z n).2
 refine ⟨z, n, rfl, rfl, h1, h2, h3, ?_, q h4⟩
 have h5 : n.toNat * z.length <= 1000 * 1000 := Nat.mul_le_mul (by lia) h3
 rw [PySem.sizeLine_eq]
 lia
theorem ZiF {z : Str} {lo hi : Option Int} {H : Hp} {Q : VK} (h : z.length <= 1000000) (q : (Txt.slice z lo hi).length <= z.length -> Q (.str (Txt.slice z lo hi)) H) : rSlS (.str z) lo hi H Q :=
 ⟨z, rfl, by rw [PySem.sizeLine_eq]; lia, q (Txt.slice_le z lo hi)⟩
theorem ZmU (n : Int) : Zbl (numS n) := asc_mem.mpr fun c hc => by have := Zc5 n c hc; lia
theorem Zeq {s : Str} (hs : Zbl s) : ∀ {zs : List Str}, (∀ z ∈ zs, Zbl z) -> Zbl (Str.join s zs)
  | [], _ => asc_mem.mpr fun c hc => (by cases hc)
  | [x], h => h x List.mem_cons_self
  | x :: y :: r, h => by
    show Zbl (x ++ s ++ Str.join s (y :: r))
    exact Zcq (Zcq (h x List.mem_cons_self) hs) (Zeq hs fun z hz => h z (List.mem_cons_of_mem _ hz))
theorem ix_to {a : Int} {n : Nat} (h : 0 <= a) : (strSliceIndices none (some a) 1 n).length <= a.toNat := by
 unfold strSliceIndices sliceRange
 simp only [show (1 : Int) > 0 by decide, if_true, List.length_map, List.length_range]
 split <;> (try split) <;> (try split) <;> (try simp only [Int.ediv_one]) <;> lia
theorem Zjp {a : Int} {n : Nat} (h : 0 <= a) : (strSliceIndices (some a) none 1 n).length <= n - a.toNat := by
 unfold strSliceIndices sliceRange
 simp only [show (1 : Int) > 0 by decide, if_true, List.length_map, List.length_range]
 split <;> (try split) <;> (try split) <;> (try simp only [Int.ediv_one]) <;> lia
theorem Zhf {z : Str} {l u : Option Int} {k : Nat} (h : (strSliceIndices l u 1 z.length).length <= k) : (Txt.slice z l u).length <= k := by
 unfold Txt.slice
 split
 ·next e =>
  have : (strSliceIndices l u 1 z.length).length = z.length := by simpa using e
  lia
 ·show (List.filterMap _ (strSliceIndices l u 1 z.length)).toArray.size <= k
  rw [List.size_toArray]
  exact Nat.le_trans (List.length_filterMap_le _ _) h
theorem Zfv {z : Str} {a : Int} {H : Hp} {Q : VK} (h : z.length <= 1000000) (ha : 0 <= a) (q : (Txt.slice z none (some a)).length <= a.toNat -> Q (.str (Txt.slice z none (some a))) H) : rSlS (.str z) none (some a) H Q :=
 ⟨z, rfl, by rw [PySem.sizeLine_eq]; lia, q (Zhf (ix_to ha))⟩
theorem ZdC {z : Str} {a : Int} {H : Hp} {Q : VK} (h : z.length <= 1000000) (ha : 0 <= a) (q : (Txt.slice z (some a) none).length <= z.length - a.toNat -> Q (.str (Txt.slice z (some a) none)) H) : rSlS (.str z) (some a) none H Q :=
 ⟨z, rfl, by rw [PySem.sizeLine_eq]; lia, q (Zhf (Zjp ha))⟩
theorem Zlo (c : Nat) : Zca c = decide (c ∈ (Str.ofString "0123456789").cps.toList) := by
 by_cases h : c < 58
 ·exact (by decide +kernel : ∀ c < 58, Zca c = decide (c ∈ (Str.ofString "0123456789").cps.toList)) c h
 ·have h1 : ¬ (c ∈ (Str.ofString "0123456789").cps.toList) := fun z => h ((by decide +kernel : ∀ x ∈ (Str.ofString "0123456789").cps.toList, x < 58) c z)
  rw [decide_eq_false h1]
  unfold Zca
  simp
  lia
end L2
end
section
namespace L3
open PySem Builtin Builtin.Str
section
variable {prog : Program} {w : World} {A : Around} {E : Value -> Shared -> Prop} {s : Shared}
end
end L3
end
section
namespace L2
open PySem PySem.Spec PyProof.Rows
section
variable {X : Cx} {tg : Expr}
end
end L2
end
section
namespace L2
open PySem PySem.Spec PyProof.Rows
section
variable {X : Cx} {pos : Pos}
end
end L2
end
section
namespace L2
open PySem PySem.Spec PyProof.Rows
section
variable {X : Cx} {pos : Pos} {es : List Expr} {te : TE} {t : TA}
theorem Zel {l : List Expr} (ha : PE X (.List l pos) te) (hr : PA X es t) : PA X (.List l pos :: es) (Zb6 te t) := ZcA ha hr rfl
theorem ZdF {l : List Expr} {k : Nat} (ha : PE X (.Tuple l k pos) te) (hr : PA X es t) : PA X (.Tuple l k pos :: es) (Zb6 te t) := ZcA ha hr rfl
theorem ZaW {a b : Expr} {op : Operator} (ha : PE X (.BinOp a op b pos) te) (hr : PA X es t) : PA X (.BinOp a op b pos :: es) (Zb6 te t) := ZcA ha hr rfl
theorem ZaJ {f : Expr} {as : List Expr} {ks} (ha : PE X (.Call f as ks pos) te) (hr : PA X es t) : PA X (.Call f as ks pos :: es) (Zb6 te t) := ZcA ha hr rfl
theorem Zdd {e : Expr} {gs} {sc} (ha : PE X (.ListComp e gs sc pos) te) (hr : PA X es t) : PA X (.ListComp e gs sc pos :: es) (Zb6 te t) := ZcA ha hr rfl
theorem Za1 {a b : Expr} (ha : PE X (.Subscript a b pos) te) (hr : PA X es t) : PA X (.Subscript a b pos :: es) (Zb6 te t) := ZcA ha hr rfl
theorem Zaa {x : Str} (ha : PE X (.Name x pos) te) (hr : PA X es t) : PA X (.Name x pos :: es) (Zb6 te t) := ZcA ha hr rfl
theorem Zai {c : Const} {k : Nat} (ha : PE X (.Constant c k pos) te) (hr : PA X es t) : PA X (.Constant c k pos :: es) (Zb6 te t) := ZcA ha hr rfl
theorem ZfG {a : Expr} {os : List CmpOp} {cs : List Expr} (ha : PE X (.Compare a os cs pos) te) (hr : PA X es t) : PA X (.Compare a os cs pos :: es) (Zb6 te t) := ZcA ha hr rfl
theorem ZkB {o : BoolOp} {cs : List Expr} (ha : PE X (.BoolOp o cs pos) te) (hr : PA X es t) : PA X (.BoolOp o cs pos :: es) (Zb6 te t) := ZcA ha hr rfl
theorem Zb0 {l : List Expr} {p : Pos} {i : Nat} {x : Str} {pos' : Pos} (hN : X.N.Nodup) (hi : X.N[i]? = some x) (hx : Loc X.env.scope x) (he : PE X (.List l p) te) (hf : X.fn x = true \/ X.env.scope.names.lookup x = some .local := by first | exact .inl rfl | exact .inr rfl | assumption) : PS X (.Assign [.Name x pos'] (.List l p) pos) (tAsg te (Zdl i)) := Zcw hN hi hx he rfl hf
theorem Zmi {l : List Expr} {k : Nat} {p : Pos} {i : Nat} {x : Str} {pos' : Pos} (hN : X.N.Nodup) (hi : X.N[i]? = some x) (hx : Loc X.env.scope x) (he : PE X (.Tuple l k p) te) (hf : X.fn x = true \/ X.env.scope.names.lookup x = some .local := by first | exact .inl rfl | exact .inr rfl | assumption) : PS X (.Assign [.Name x pos'] (.Tuple l k p) pos) (tAsg te (Zdl i)) := Zcw hN hi hx he rfl hf
theorem Za0 {a b : Expr} {op : Operator} {p : Pos} {i : Nat} {x : Str} {pos' : Pos} (hN : X.N.Nodup) (hi : X.N[i]? = some x) (hx : Loc X.env.scope x) (he : PE X (.BinOp a op b p) te) (hf : X.fn x = true \/ X.env.scope.names.lookup x = some .local := by first | exact .inl rfl | exact .inr rfl | assumption) : PS X (.Assign [.Name x pos'] (.BinOp a op b p) pos) (tAsg te (Zdl i)) := Zcw hN hi hx he rfl hf
theorem Zbx {f : Expr} {as : List Expr} {ks} {p : Pos} {i : Nat} {x : Str} {pos' : Pos} (hN : X.N.Nodup) (hi : X.N[i]? = some x) (hx : Loc X.env.scope x) (he : PE X (.Call f as ks p) te) (hf : X.fn x = true \/ X.env.scope.names.lookup x = some .local := by first | exact .inl rfl | exact .inr rfl | assumption) : PS X (.Assign [.Name x pos'] (.Call f as ks p) pos) (tAsg te (Zdl i)) := Zcw hN hi hx he rfl hf
theorem Zdq {a b : Expr} {p : Pos} {i : Nat} {x : Str} {pos' : Pos} (hN : X.N.Nodup) (hi : X.N[i]? = some x) (hx : Loc X.env.scope x) (he : PE X (.Subscript a b p) te) (hf : X.fn x = true \/ X.env.scope.names.lookup x = some .local := by first | exact .inl rfl | exact .inr rfl | assumption) : PS X (.Assign [.Name x pos'] (.Subscript a b p) pos) (tAsg te (Zdl i)) := Zcw hN hi hx he rfl hf
end
end L2
end
section
namespace HT
open PySem PySem.Spec PyProof.Rows L2
end HT
namespace L2
open PySem PySem.Spec PyProof.Rows
end L2
end
section
namespace L2
open PySem PySem.Spec PyProof.Rows
noncomputable def rEqE (K : PySem.W.Frag) : R2 := fun x y H Q => ∃ a b xs, x = .ref a /\ y = .ref b /\ SqL K H a xs /\ SqL K H b [] /\ Q (.bl (decide (xs = []))) H
theorem op_eqE {X : Cx} (hu : X.A.units + 64 < cLine) : OpR X (compareOp .Eq) (rEqE X.K) := by
 rintro pins s σ H x y v u Q I rx ry ⟨a, b, xs, rfl, rfl, ha, hb, q⟩
 by_cases hx : xs = []
 ·subst hx
  refine op_eqL hu pins s σ H _ _ v u Q I rx ry ⟨a, b, [], [], [], [], rfl, rfl, ha, hb, ZaT, ZaT, rfl, rfl, by simp [D.deps], ?_⟩
  rw [Zcl]
  simpa using q
 ·cases rx; cases ry
  obtain ⟨its, vx, ht, _⟩ := I.list ha
  obtain ⟨its', vy, ht', _⟩ := I.list hb
  have l1 := vx.length
  have l2 := vy.length
  have hl : its.length ≠ its'.length := by
   have : 0 < xs.length := List.length_pos_iff.mpr hx
   have l2 : 0 = its'.length := l2
   lia
  refine SeqAt.eq_list_lengthsAt ht.isList ht'.isList (by simpa using hl) (by lia) (ZaN I q ?_)
  simp [hx]
theorem k_eqE {X : Cx} {K : PySem.W.Frag} (h : X.K = K) (hu : X.A.units + 64 < cLine) : OpR X (compareOp .Eq) (rEqE K) := h ▸ op_eqE hu
theorem rd_eqE {K : PySem.W.Frag} {H : Hp} {a b : Addr} {xs : List V} {Q : VK} (h1 : SqL K H a xs) (h2 : H b = some (.lst [])) (q : Q (.bl (decide (xs = []))) H) : rEqE K (.ref a) (.ref b) H Q := ⟨a, b, xs, rfl, rfl, h1, SqL.of h2, q⟩
end L2
end
section
namespace L2
open PySem PySem.Spec PyProof.Rows
noncomputable def Hid (N R : St -> Hp -> Prop) : Prop := ∀ σ' H', R σ' H' -> N σ' H'
theorem ZdU {lo : Int} {n : Nat} {g : TG} {tb : TS} {D : Ends} {σ : St} {H : Hp} (Pv : Nat -> St -> Hp -> Prop) (h0 : Pv 0 σ H)
  (hs : ∀ i σ H, i < n -> Pv i σ H -> ∀ N : St -> Hp -> Prop, Hid N (Pv (i + 1)) -> g (.int (lo + i)) σ H fun σ2 H2 => tb { D with nx := N, ct := N, bk := D.nx } σ2 H2) (hd : ∀ σ H, Pv n σ H -> D.nx σ H) :
  ∃ W : Nat -> Nat -> St -> Hp -> Prop, (∃ m, W 0 m σ H) /\ ∀ i m σ H, W i m σ H ->
   ((Itr lo n).stop i H /\ D.nx σ H) \/ ((Itr lo n).go i H /\ ∃ N : St -> Hp -> Prop, (∀ σ' H', N σ' H' -> ∃ m', m' < m /\ W (i + 1) m' σ' H') /\ ∀ x H', (Itr lo n).yld i H x H' -> g x σ H' fun σ2 H2 => tb { D with nx := N, ct := N, bk := D.nx } σ2 H2) := Zc9 Pv h0 (fun i σ H hi p => hs i σ H hi p _ fun _ _ x => x) hd
theorem ZeQ {K : PySem.W.Frag} {a : Addr} {xs : List V} {g : TG} {tb : TS} {D : Ends} {σ : St} {H : Hp} (Pv : Nat -> St -> Hp -> Prop) (h0 : Pv 0 σ H) (hl : ∀ i σ H, i <= xs.length -> Pv i σ H -> SqL K H a xs)
  (hs : ∀ i x σ H, xs[i]? = some x -> Pv i σ H -> ∀ N : St -> Hp -> Prop, Hid N (Pv (i + 1)) -> g x σ H fun σ2 H2 => tb { D with nx := N, ct := N, bk := D.nx } σ2 H2) (hd : ∀ σ H, Pv xs.length σ H -> D.nx σ H) :
  ∃ W : Nat -> Nat -> St -> Hp -> Prop, (∃ m, W 0 m σ H) /\ ∀ i m σ H, W i m σ H ->
   ((Itl K a).stop i H /\ D.nx σ H) \/ ((Itl K a).go i H /\ ∃ N : St -> Hp -> Prop, (∀ σ' H', N σ' H' -> ∃ m', m' < m /\ W (i + 1) m' σ' H') /\ ∀ x H', (Itl K a).yld i H x H' -> g x σ H' fun σ2 H2 => tb { D with nx := N, ct := N, bk := D.nx } σ2 H2) := Zdg Pv h0 hl (fun i x σ H hi p => hs i x σ H hi p _ fun _ _ x => x) hd
theorem ZlI {t u : TS} {D' : Ends} {σ : St} {H : Hp} (h : let D1 : Ends := { D' with nx := u D' }; t D1 σ H) : tSeq t u D' σ H := h
theorem ZiJ {n : Nat} {v : V} {σ : St} {H : Hp} {R : St -> Hp -> Prop} (h : let σ1 : St := σ.set n (some v); R σ1 H) : Zdl n v σ H R := h
theorem Zkl {sp : Sp} {dvs : List V} {E : XK} {ta : TA} {σ : St} {H : Hp} {Q : VK} (h : let Q1 : VK := Q; ta σ H fun vs H1 => sp (vs ++ dvs) H1 Q1 E) : Zer sp dvs E ta σ H Q := h
section
variable {r : R2} {n m : Nat} {c c' v u : V} {σ : St} {H : Hp} {Q : VK} {ta tb te : TE} {tr : TA} {R : List V -> Hp -> Prop} {D' : Ends} {t t' : TS} {g : TG} {us : TS}
theorem ZlR (e : σ[n]? = some (some v)) (h : r v c H Q) : tOp r (tVar n) (tC c) σ H Q := ⟨v, e, h⟩
theorem ZlQ (e : σ[n]? = some (some v)) (e' : σ[m]? = some (some u)) (h : r v u H Q) : tOp r (tVar n) (tVar m) σ H Q := ⟨v, e, u, e', h⟩
theorem rd_opV (e : σ[n]? = some (some v)) (h : tb σ H fun y H2 => r v y H2 Q) : tOp r (tVar n) tb σ H Q := ⟨v, e, h⟩
theorem rd_opC (h : tb σ H fun y H2 => r c y H2 Q) : tOp r (tC c) tb σ H Q := h
theorem ZiL (e : σ[n]? = some (some v)) (h : R [v] H) : Zb6 (tVar n) tNil σ H R := ⟨v, e, h⟩
theorem ZiM (h : R [c] H) : Zb6 (tC c) tNil σ H R := h
theorem Zkh (e : σ[n]? = some (some v)) (h : tr σ H fun xs H2 => R (v :: xs) H2) : Zb6 (tVar n) tr σ H R := ⟨v, e, h⟩
theorem Zki (h : tr σ H fun xs H2 => R (c :: xs) H2) : Zb6 (tC c) tr σ H R := h
theorem ZlK (h : let D1 : Ends := { D' with nx := us D' }; te σ H fun x H1 => g x σ H1 D1.nx) : tSeq (tAsg te g) us D' σ H := h
theorem ZlJ (h : let D1 : Ends := { D' with nx := us D' }; ta σ H fun x H' => ∃ k, x = .bl k /\ if k = true then t D1 σ H' else t' D1 σ H') : tSeq (tIfS (ZgF ta) t t') us D' σ H := h
theorem rd_ifT (h : ta σ H fun x H' => ∃ k, x = .bl k /\ if k = true then t D' σ H' else t' D' σ H') : tIfS (ZgF ta) t t' D' σ H := h
theorem ZlM (e : σ[n]? = some (some v)) (h : D'.rt v H) : tRet (tVar n) D' σ H := ⟨v, e, h⟩
theorem ZlN (h : D'.rt c H) : tRet (tC c) D' σ H := h
theorem Zl5 {i j : Int} {B : Bool -> Hp -> Prop} (h : B (decide (i = j)) H) : rEq (.int i) (.int j) H (fun x H' => ∃ k, x = .bl k /\ B k H') := ZiK (Zci h)
theorem ZlV {i j : Int} {B : Bool -> Hp -> Prop} (h : B (!decide (i = j)) H) : rNe (.int i) (.int j) H (fun x H' => ∃ k, x = .bl k /\ B k H') := Zlc (Zci h)
theorem Zl4 {i j : Str} {B : Bool -> Hp -> Prop} (h : B (decide (i = j)) H) : rEq (.str i) (.str j) H (fun x H' => ∃ k, x = .bl k /\ B k H') := Zlf (Zci h)
theorem ZlU {i j : Str} {B : Bool -> Hp -> Prop} (h : B (!decide (i = j)) H) : rNe (.str i) (.str j) H (fun x H' => ∃ k, x = .bl k /\ B k H') := Zlb (Zci h)
end
end L2
end
section
namespace L2
open PySem PySem.Spec PyProof.Rows
theorem ZgH {M : Model} {Γ : PySem.Ctx} {p : Pos} {t : Sem Fin} {fs : List Frame} {s : Shared} {e : End} {s' : Shared} (h : Runs M Γ p t fs s e s') : s.toks <= s'.toks := by
 induction h with
 | done => exact Nat.le_refl _
 | raise => exact Nat.le_refl _
 | again _ _ ih => exact ih
 | rule _ ih => exact ih
 | «at» _ ih => exact ih
 | load _ _ ih => exact ih
 | update _ _ ih => exact ih
 | loadIfAlive _ ih => exact ih
 | point _ ih => exact ih
 | alloc _ ih => exact ih
 | fresh _ ih => exact Nat.le_trans (Nat.le_succ _) ih
 | ask _ ih => exact ih
 | choose _ _ ih => exact ih
 | os _ ih => exact ih
 | handled _ ih => exact ih
 | genState _ _ ih => exact ih
 | stack _ ih => exact ih
 | thread _ ih => exact ih
 | newGen _ ih => exact ih
 | call _ _ ih1 ih2 => exact Nat.le_trans ih1 ih2
 | callSusp _ ih => exact ih
 | «yield» => exact Nat.le_refl _
 | resumeFresh _ _ _ _ ih1 ih2 => exact Nat.le_trans ih1 ih2
 | resumeSuspended _ _ _ _ ih1 ih2 => exact Nat.le_trans ih1 ih2
 | resumeJustStarted _ _ _ ih => exact ih
 | resumeThrowFresh _ _ ih => exact ih
 | resumeRunning _ _ ih => exact ih
 | resumeFinished _ _ ih => exact ih
 | segRet _ _ ih1 ih2 => exact Nat.le_trans ih1 ih2
 | segGen _ _ ih1 ih2 => exact Nat.le_trans ih1 ih2
 | segSuspOut _ _ ih => exact ih
 | segSuspGen _ _ _ _ ih1 ih2 => exact Nat.le_trans ih1 ih2
theorem ZjZ {M : Model} {Γ : PySem.Ctx} {p : Pos} {g : Nat} {r : Resume} {s : Shared} {res : GenResult} {s' : Shared} (h : Wakes M Γ p g r s res s') : s.toks <= s'.toks := by
 unfold Wakes at h
 split at h
 ·exact h.elim
 ·split at h
  ·obtain ⟨e₁, s₁, h1, _, _, rfl⟩ := h
   have := ZgH h1
   exact this
  ·rw [h.2]; exact Nat.le_refl _
  ·rw [h.2]; exact Nat.le_refl _
 ·obtain ⟨e₁, s₁, h1, _, _, rfl⟩ := h
  have := ZgH h1
  exact this
 ·rw [h.2]; exact Nat.le_refl _
 ·rw [h.2]; exact Nat.le_refl _
theorem ZcK {α : Type} {M : Model} {Γ : PySem.Ctx} {n : Nat} : ∀ (t : Sem α) {Q : α -> Pos -> Shared -> Prop} {E : Value -> Pos -> Shared -> Prop} {p : Pos} {s : Shared}, n <= s.toks -> Sem.wp M Γ t Q E p s -> Sem.wp M Γ t (fun a p' s' => n <= s'.toks /\ Q a p' s') (fun e p' s' => n <= s'.toks /\ E e p' s') p s
  | .pure a, Q, E, p, s, hn, h => by rw [Sem.wp] at h ⊢; exact ⟨hn, h⟩
  | .raise e, Q, E, p, s, hn, h => by rw [Sem.wp] at h ⊢; exact ⟨hn, h⟩
  | .unsupported _, Q, E, p, s, hn, h => by rw [Sem.wp] at h; exact h.elim
  | .finish _, Q, E, p, s, hn, h => by rw [Sem.wp] at h; exact h.elim
  | .rule _ k, Q, E, p, s, hn, h => by rw [Sem.wp] at h ⊢; exact ZcK (k ()) hn h
  | .at p' k, Q, E, p, s, hn, h => by rw [Sem.wp] at h ⊢; exact ZcK (k ()) hn h
  | .load a _ k, Q, E, p, s, hn, h => by
    rw [Sem.wp] at h ⊢
    obtain ⟨o, h1, h2⟩ := h
    exact ⟨o, h1, ZcK (k o) hn h2⟩
  | .update a _ f k, Q, E, p, s, hn, h => by
    rw [Sem.wp] at h ⊢
    exact ⟨h.1, ZcK (k ()) hn h.2⟩
  | .loadIfAlive a k, Q, E, p, s, hn, h => by rw [Sem.wp] at h ⊢; exact ZcK (k _) hn h
  | .point _ k, Q, E, p, s, hn, h => by rw [Sem.wp] at h ⊢; exact ZcK (k ()) hn h
  | .register _ _, Q, E, p, s, hn, h => by rw [Sem.wp] at h; exact h.elim
  | .alloc o k, Q, E, p, s, hn, h => by rw [Sem.wp] at h ⊢; exact ZcK (k _) hn h
  | .fresh k, Q, E, p, s, hn, h => by rw [Sem.wp] at h ⊢; exact ZcK (k _) (Nat.le_trans hn (Nat.le_succ _)) h
  | .ask k, Q, E, p, s, hn, h => by rw [Sem.wp] at h ⊢; exact ZcK (k _) hn h
  | .choose src m k, Q, E, p, s, hn, h => by
    rw [Sem.wp] at h ⊢
    exact ⟨h.1, ZcK (k _) hn h.2⟩
  | .os q _ k, Q, E, p, s, hn, h => by rw [Sem.wp] at h ⊢; exact ZcK (k _) hn h
  | .call c hh _ _ k, Q, E, p, s, hn, h => by
    rw [Sem.wp] at h ⊢
    obtain ⟨r, s', h1, h2⟩ := h
    exact ⟨r, s', h1, ZcK (k r) (Nat.le_trans hn (ZgH h1)) h2⟩
  | .handled own k, Q, E, p, s, hn, h => by rw [Sem.wp] at h ⊢; exact ZcK (k _) hn h
  | .genState g k, Q, E, p, s, hn, h => by
    rw [Sem.wp] at h ⊢
    obtain ⟨st, h1, h2⟩ := h
    exact ⟨st, h1, ZcK (k _) hn h2⟩
  | .newGen c k, Q, E, p, s, hn, h => by rw [Sem.wp] at h ⊢; exact ZcK (k _) hn h
  | .resume g r _ k, Q, E, p, s, hn, h => by
    rw [Sem.wp] at h ⊢
    obtain ⟨res, s', h1, h2⟩ := h
    exact ⟨res, s', h1, ZcK (k res) (Nat.le_trans hn (ZjZ h1)) h2⟩
  | .yield .., Q, E, p, s, hn, h => by rw [Sem.wp] at h; exact h.elim
  | .stack k, Q, E, p, s, hn, h => by rw [Sem.wp] at h ⊢; exact ZcK (k _) hn h
  | .fork .., Q, E, p, s, hn, h => by rw [Sem.wp] at h; exact h.elim
  | .thread k, Q, E, p, s, hn, h => by rw [Sem.wp] at h ⊢; exact ZcK (k _) hn h
  | .await .., Q, E, p, s, hn, h => by rw [Sem.wp] at h; exact h.elim
theorem ZjX {α : Type} {M : Model} {A : Around} {t : Sem α} {Q : α -> Shared -> Prop} {E : Value -> Shared -> Prop} {s : Shared} {n : Nat} (hn : n <= s.toks) (h : wpAny M A t Q E s) : wpAny M A t (fun a s' => n <= s'.toks /\ Q a s') (fun e s' => n <= s'.toks /\ E e s') s := fun Γ p hΓ => ZcK t hn (h Γ p hΓ)
theorem up1 {α : Type} {M : Model} {A : Around} {t : Sem α} {Q : α -> Shared -> Prop} {E : Value -> Shared -> Prop} {s : Shared} (hn : 1 <= s.toks) (h : wpAny M A t Q E s) : wpAny M A t (fun a s' => 1 <= s'.toks /\ Q a s') E s := wpAny_mono (ZjX hn h) (fun _ _ x => x) fun _ _ x => x.2
noncomputable def PES (X : Cx) (e : Expr) (t : TE) : Prop :=
 ∀ (pins : List (Addr × Obj)) (s : Shared) (σ : St) (H : Hp) (Q : VK), Inv X pins σ H s -> t σ H Q -> wpAny (model X.prog X.w) X.A (eval e X.env) (fun v s' => 1 <= s'.toks /\ EP X pins σ Q v s') X.xe s
noncomputable def PAS (X : Cx) (es : List Expr) (t : TA) : Prop :=
 ∀ (pos : Pos) (pins : List (Addr × Obj)) (s : Shared) (σ : St) (H : Hp) (Q : List V -> Hp -> Prop), Inv X pins σ H s -> t σ H Q -> wpAny (model X.prog X.w) X.A (spliced (backTo pos (starEach es X.env))) (fun v s' => 1 <= s'.toks /\ AP X pins σ Q v s') X.xe s
noncomputable def PSS (X : Cx) (st : Stmt) (t : TS) : Prop :=
 ∀ (pins : List (Addr × Obj)) (s : Shared) (σ : St) (H : Hp) (D : Ends), Inv X pins σ H s -> t D σ H -> wpAny (model X.prog X.w) X.A (exec st X.env) (fun f s' => 1 <= s'.toks /\ SP X pins D f s') X.xe s
noncomputable def PSsS (X : Cx) (st : List Stmt) (t : TS) : Prop :=
 ∀ (pins : List (Addr × Obj)) (s : Shared) (σ : St) (H : Hp) (D : Ends), Inv X pins σ H s -> t D σ H -> wpAny (model X.prog X.w) X.A (execs st X.env) (fun f s' => 1 <= s'.toks /\ SP X pins D f s') X.xe s
section
variable {X : Cx}
theorem Zms {i : Int} {k : Nat} {p : Pos} : PAS X [.Constant (.int i) k p] (Zb6 (tC (.int i)) tNil) := by
 intro pos pins s σ H Q I h
 show wpAny _ _ (spliced ((false, eval (.Constant (.int i) k p) X.env) :: backTo pos (starEach [] X.env))) _ _ s
 refine Calls.spliced_cons (wpAny_Constant_int ?_)
 refine up1 (Nat.succ_le_succ (Nat.zero_le _)) ?_
 exact thn (Zab pos pins { s with toks := s.toks + 1 } σ H _ (I.tok _) (show tNil σ H fun xs H2 => Q (.int i :: xs) H2 from h)) fun us s2 ⟨xs, H2, I2, r2, q2⟩ => ⟨.int i :: xs, H2, I2, .cons ⟨_, rfl⟩ r2, q2⟩
theorem ZiZ {x : Str} {pos : Pos} {te : TE} {es : List Expr} {t : TA} (ha : PE X (.Name x pos) te) (hr : PAS X es t) : PAS X (.Name x pos :: es) (Zb6 te t) := by
 intro pos' pins s σ H Q I h
 show wpAny _ _ (spliced ((false, eval (.Name x pos) X.env) :: backTo pos' (starEach es X.env))) _ _ s
 refine Calls.spliced_cons (thn (ha pins s σ H _ I h) fun u s1 ⟨x, H1, I1, r1, q1⟩ => ?_)
 exact thn (hr pos' pins s1 σ H1 _ I1 q1) fun us s2 ⟨hn, xs, H2, I2, r2, q2⟩ => ⟨hn, x :: xs, H2, I2, .cons r1 r2, q2⟩
theorem Zkx {CX : CXT} {x : Str} {p pos : Pos} {e : Expr} {es : List Expr} {t : TA} {k : Nat} {f : Addr} {fd : FuncData} {ps : List Str} {sp : Sp} {ds : List Value} {dvs : List V} {E : XK} (F : FnOk X.prog X.w X.K X.mg X.base CX k f fd ps sp) (hr : Room k X.A) (hg : Gl X x) (hm : X.mg x = some (.ref f)) (hk : PySem.W.keepIn X.K (.ref f) = true) (hb : Binds X.K fd ps ds) (hd : Vals dvs ds) (hx : Ze1 CX X E)
  (ha : PAS X (e :: es) t) (hdb : (x == ("__debug__" : Str)) = false := by decide) (he : starEach (e :: es) X.env = (false, eval e X.env) :: starEach es X.env := by rfl) (hpl : (backTo pos (starEach es X.env)).any (·.1) = false := by rfl) :
  PES X (.Call (.Name x p) (e :: es) [] pos) (Zer sp dvs E t) := by
 intro pins s σ H Q I h
 refine wpAny_Call_Name_kw (ZcU I hg hm ?_ hdb)
 refine PySem.W.callWith_K (h₀ := X.base) I.ok.mod.kin hk (thn (ha pos pins s σ H _ I h) fun us s1 ⟨hn, vs, H1, I1, r, q⟩ => ⟨I1.kIn, ?_⟩) he hpl
 exact up1 hn (Ziw F hr hb hd hx I1 r q)
theorem pe_fnA {x : Str} {k : Nat} {ps : List Str} {sp : Sp} {p pos : Pos} {e : Expr} {es : List Expr} {t : TA} (C : Callee X.prog X.w X.K X.mg X.base x k ps sp) (hr : Room k X.A) (hg : Gl X x) (ha : PAS X (e :: es) t) (hdb : (x == ("__debug__" : Str)) = false := by decide)
  (he : starEach (e :: es) X.env = (false, eval e X.env) :: starEach es X.env := by rfl) (hpl : (backTo pos (starEach es X.env)).any (·.1) = false := by rfl) :
  PES X (.Call (.Name x p) (e :: es) [] pos) (Zer sp [] E0 t) := by
 obtain ⟨f, fd, F, hm, hk, hb⟩ := C.ex
 exact Zkx F hr hg hm hk hb .nil Zmr ha hdb he hpl
theorem Zmj {f : Expr} {as : List Expr} {ks : List Keyword} {p pos : Pos} {i : Nat} {x : Str} {pos' : Pos} {te : TE} (hN : X.N.Nodup) (hi : X.N[i]? = some x) (hx : Loc X.env.scope x) (he : PES X (.Call f as ks p) te) (hf : X.fn x = true \/ X.env.scope.names.lookup x = some .local := by first | exact .inl rfl | exact .inr rfl | assumption) :
  PSS X (.Assign [.Name x pos'] (.Call f as ks p) pos) (tAsg te (Zdl i)) := by
 intro pins s σ H D I h
 refine wpAny_Assign_Name (thn (he pins s σ H _ I h) fun v s1 ⟨hn, y, H1, I1, r1, q1⟩ => ?_) rfl
 exact up1 hn (Zdv I1 hN hi hx r1 (fun s2 I2 => ⟨_, H1, I2, q1⟩) hf)
theorem ZiV {st : Stmt} {rest : List Stmt} {t u : TS} (h1 : PSS X st t) (h2 : PSs X rest u) : PSsS X (st :: rest) (tSeq t u) := by
  intro pins s σ H D I h
  refine wpAny_execs_cons (thn (h1 pins s σ H { D with nx := u D } I h) fun f s1 ⟨hn, q⟩ => ?_)
  cases f with
  | next =>
    obtain ⟨σ', H', I', q⟩ := q
    exact up1 hn (h2 pins s1 σ' H' D I' q)
  | ret v => exact ⟨hn, q⟩
  | brk => exact ⟨hn, q⟩
  | cont => exact ⟨hn, q⟩
theorem PSsS.nox {st : List Stmt} {t : TS} (h : PSsS X.nox st t) : PSsS X st t := fun pins s σ H D I hw =>
 wpAny_mono (h pins s σ H D (I.wish _) hw) (fun f s' ⟨hn, q⟩ => ⟨hn, q.unwish⟩) fun _ _ z => False.elim z
end
noncomputable def CRS (CX : CXT) (outer : List Env) (P : Program) (w : World) (H : Hp) (s : Shared) (Q : VK) (E : XK) (r : Result) (s' : Shared) : Prop :=
 match r with
 | .ok (.ret u) => 1 <= s'.toks /\ CE outer P w H s Q u s'
 | .ok _ => False
 | .error e => CX outer H s E e s'
structure FnOkS (P : Program) (w : World) (K : PySem.W.Frag) (mg : Str -> Option Value) (base : Heap) (CX : CXT) (k : Nat) (f : Addr) (fd : FuncData) (ps : List Str) (sp : Sp) : Prop where
 len : ∀ vs H Q E, sp vs H Q E -> vs.length = ps.length
 run : ∀ (A : Around) (outer : List Env) (s : Shared) (H : Hp) (args : Args) (us : List Value) (vs : List V) (Q : VK) (E : XK), Room k A -> Env0 P w K mg base A outer s H -> BindsTo s fd args (ps.zip us) -> Vals vs us -> sp vs H Q E ->
  codeAny (model P w) A (.call (.ref f) args) (CRS CX outer P w H s Q E) s
theorem fn_ofS {CX : CXT} {P : Program} {w : World} {K : PySem.W.Frag} {mg : Str -> Option Value} {base : Heap} {k : Nat} {f : Addr} {name qual : Str} {params : Arguments} {body : List Stmt} {scope : Scope} {dV kV doc pm cdv ct oc : Value} {an od : Option Addr}
    {osl : Array (Option Value)} {N ps : List Str} {sp : Sp} (lk : K.lookup f = some ⟨oc, od, .func (PySem.W.fnOf name qual params body scope dV kV doc pm an cdv ct), osl⟩) (hcd : PySem.W.codeIn K cdv qual = true) (S : FnScope N ps scope)
    (len : ∀ vs H Q E, sp vs H Q E -> vs.length = ps.length)
    (hbody : ∀ (A : Around) (outer : List Env) (s : Shared) (H : Hp) (vs : List V) (Q : VK) (E : XK), Room k (A.deeper (envOfC qual scope s.heap.objs.size f cdv)) -> sp vs H Q E ->
      ∃ t, PSsS (cxOf CX P w K mg base N qual scope f cdv A outer s H E) body t /\ t { nx := fun _ H' => Q .non H', rt := Q } (Zc1 N vs) H) :
    FnOkS P w K mg base CX (k + 1) f (PySem.W.fnOf name qual params body scope dV kV doc pm an cdv ct) ps sp := by
  refine ⟨len, fun A outer s H args us vs Q E hr e0 hb r hsp => ?_⟩
  have hl := len _ _ _ _ hsp
  have KX : K.In s.heap := e0.mod.kin.keeps fun b o e => (e0.bs b o e).1
  have lim : s.heap.NoLimit := e0.mod.nolimit.keeps fun b o e => (e0.bs b o e).1
  have hkind : ∀ y ∈ ps.zip us, scope.names.lookup y.1 = some .local \/ (scope.names.lookup y.1 = some .cell /\ ((cellsFrom (s.heap.objs.size + 1) scope.names []).lookup y.1).isSome = true) := fun ⟨n, v⟩ hy => by
    rcases S.par n (List.of_mem_zip hy).1 with q | q
    · exact .inl q
    · exact .inr ⟨q, PySem.W.cellsFrom_some _ _ _ (.inl q)⟩
  refine codeAny_call_function hr.depth (KX _ _ lk) rfl S.co S.gen rfl (PySem.W.codeRec_of KX hcd) (hb _ _ _ _ ?_)
  refine wpAny_newFunctionEnv_cells S.kind hkind fun env he s1 x => ?_
  subst he
  refine ⟨lim.keeps x.toInCall.keep, codeAny_func ?_⟩
  obtain ⟨t, ht, hq⟩ := hbody A outer s H vs Q E (hr.deeper _) hsp
  have I : Inv (cxOf CX P w K mg base N qual scope f cdv A outer s H E) [] (Zc1 N vs) H s1 := Zgo S hr.hd e0 hl r x
  refine wpAny_mono ((ht [] s1 (Zc1 N vs) H _ I hq)) (fun fl s' ⟨hn, hs⟩ => ?_) fun e s' hs => hs
  have fin : ∀ {σ' : St} {H' : Hp} {v : V} {u : Value}, Inv (cxOf CX P w K mg base N qual scope f cdv A outer s H E) [] σ' H' s' -> RelV v u -> Q v H' -> 1 <= s'.toks /\ CE outer P w H s Q u s' :=
    fun {σ' H' v u} J rv q => ⟨hn, v, H', J.os, J.bare, J.base, J.hok, rv, q⟩
  cases fl with
  | ret u =>
    obtain ⟨v, σ', H', J, rv, q⟩ := hs
    exact fin J rv q
  | next =>
    obtain ⟨σ', H', J, q⟩ := hs
    exact fin (v := V.non) (u := Value.none) J rfl q
  | brk =>
    obtain ⟨_, _, _, q⟩ := hs
    exact False.elim q
  | cont =>
    obtain ⟨_, _, _, q⟩ := hs
    exact False.elim q
theorem CRS.cr {CX : CXT} {outer : List Env} {P : Program} {w : World} {H : Hp} {s : Shared} {Q : VK} {E : XK} {r : Result} {s' : Shared} (h : CRS CX outer P w H s Q E r s') : CR CX outer P w H s Q E r s' := by
  cases r with
  | error e => exact h
  | ok fl =>
    cases fl with
    | ret u => exact h.2
    | next => exact h
    | brk => exact h
    | cont => exact h
theorem FnOkS.ok {P : Program} {w : World} {K : PySem.W.Frag} {mg : Str -> Option Value} {base : Heap} {CX : CXT} {k : Nat} {f : Addr} {fd : FuncData} {ps : List Str} {sp : Sp} (F : FnOkS P w K mg base CX k f fd ps sp) : FnOk P w K mg base CX k f fd ps sp :=
 ⟨F.len, fun A outer s H args us vs Q E hr e0 hb r h => codeAny_mono (F.run A outer s H args us vs Q E hr e0 hb r h) fun _ _ z => z.cr⟩
structure CalleeS (P : Program) (w : World) (K : PySem.W.Frag) (mg : Str -> Option Value) (base : Heap) (x : Str) (k : Nat) (ps : List Str) (sp : Sp) : Prop where
 ex : ∃ f fd, FnOkS P w K mg base CX0 k f fd ps sp /\ mg x = some (.ref f) /\ PySem.W.keepIn K (.ref f) = true /\ Binds K fd ps []
theorem CalleeS.callee {P : Program} {w : World} {K : PySem.W.Frag} {mg : Str -> Option Value} {base : Heap} {x : Str} {k : Nat} {ps : List Str} {sp : Sp} (C : CalleeS P w K mg base x k ps sp) : Callee P w K mg base x k ps sp := by
 obtain ⟨f, fd, F, hm, hk, hb⟩ := C.ex
 exact ⟨f, fd, F.ok, hm, hk, hb⟩
section
variable {P : Program} {w : World} {K : PySem.W.Frag} {mg : Str -> Option Value} {base : Heap} {x : Str} {st : Stmt} {ps N : List Str} {k : Nat}
noncomputable def GoalS (P : Program) (w : World) (K : PySem.W.Frag) (mg : Str -> Option Value) (base : Heap) (N : List Str) (x : Str) (st : Stmt) (f : Addr) (cdv : Value) (A : Around) (outer : List Env) (s : Shared) (H : Hp) (vs : List V) (Q : VK) (E : XK) : Prop :=
 ∃ t, PSsS (cxOf CX0 P w K mg base N x (Zag st) f cdv A outer s H E).nox (Zay st) t /\ t { nx := fun _ H' => Q .non H', rt := Q } (Zc1 N vs) H
theorem ZkT {f : Addr} {cdv : Value} {A : Around} {outer : List Env} {s : Shared} {H : Hp} {vs : List V} {Q : VK} {E : XK} {t : TS} (σ : St) (hσ : Zc1 N vs = σ) (h : PSsS (cxOf CX0 P w K mg base N x (Zag st) f cdv A outer s H E).nox (Zay st) t)
  (q : t { nx := fun _ H' => Q .non H', rt := Q } σ H) : GoalS P w K mg base N x st f cdv A outer s H vs Q E := ⟨t, h, by rw [hσ]; exact q⟩
theorem TopFn.ok1S {a1 : Str} {b : V -> Hp -> VK -> Prop} (T : TopFn K mg x st [a1]) (S : FnScope N [a1] (Zag st))
  (h : ∀ (f : Addr) (cdv : Value) (A : Around) (outer : List Env) (s : Shared) (H : Hp) (v1 : V) (Q : VK) (E : XK), Room k (A.deeper (envOfC x (Zag st) s.heap.objs.size f cdv)) -> b v1 H Q -> GoalS P w K mg base N x st f cdv A outer s H [v1] Q E) : CalleeS P w K mg base x (k + 1) [a1] (sp1 b) := by
 obtain ⟨f, fd, F, hm, hb⟩ := T.ex
 refine ⟨f, fd, ?_, hm, F.kp, hb⟩
 obtain ⟨oc, od, kV, doc, pm, an, cdv, ct, osl, rfl, lk, hcd⟩ := F.ex
 refine fn_ofS lk hcd S (fun vs H Q E ⟨_, e, _⟩ => by rw [e]; rfl) fun A outer s H vs Q E hr hsp => ?_
 obtain ⟨v1, rfl, hb⟩ := hsp
 obtain ⟨t, h, q⟩ := h f cdv A outer s H v1 Q E hr hb
 exact ⟨t, h.nox, q⟩
end
section
variable {X : Cx}
theorem pe_fnS {x : Str} {k : Nat} {ps : List Str} {sp : Sp} {p pos : Pos} {e : Expr} {es : List Expr} {t : TA} (C : CalleeS X.prog X.w X.K X.mg X.base x k ps sp) (hr : Room k X.A) (hg : Gl X x) (ha : PA X (e :: es) t) (hdb : (x == ("__debug__" : Str)) = false := by decide)
    (he : starEach (e :: es) X.env = (false, eval e X.env) :: starEach es X.env := by rfl) (hpl : (backTo pos (starEach es X.env)).any (·.1) = false := by rfl) :
    PES X (.Call (.Name x p) (e :: es) [] pos) (Zer sp [] E0 t) := by
  obtain ⟨f, fd, F, hm, hk, hb⟩ := C.ex
  intro pins s σ H Q I h
  refine wpAny_Call_Name_kw (ZcU I hg hm ?_ hdb)
  refine PySem.W.callWith_K (h₀ := X.base) I.ok.mod.kin hk (thn (ha pos pins s σ H _ I h) fun us s1 ⟨vs, H1, I1, r, q⟩ => ⟨I1.kIn, ?_⟩) he hpl
  have r2 : Vals (vs ++ []) (us ++ []) := by rw [List.append_nil, List.append_nil]; exact r
  have hl : (us ++ []).length = ps.length := by rw [<- r2.length]; exact F.len _ _ _ _ q
  refine wpAny_call (codeAny_mono (F.run X.A X.stack s1 H1 ⟨us, []⟩ (us ++ []) (vs ++ []) Q E0 hr I1.env0 (hb s1 us I1.kIn hl) r2 q) fun r s' hq => ?_)
  cases r with
  | error e => exact False.elim hq
  | ok fl =>
    cases fl with
    | ret u => exact ⟨hq.1, I1.after hq.2⟩
    | next => exact False.elim hq
    | brk => exact False.elim hq
    | cont => exact False.elim hq
noncomputable def tRepl (y z : Str) (to : TE) : TE := fun σ H Q => to σ H fun x H1 => ∃ t, x = .str t /\ t.length <= 1000000 /\ Q (.str (Txt.replace t y z)) H1
theorem Zku {o : Expr} {to : TE} {y z : Str} {k1 k2 : Nat} {p1 p2 apos cpos : Pos} (hyz : (y == z) = false) (hz : z.length <= 14) (ho : PES X o to)
  (hbase : attributeBase o "replace" X.env (eval o X.env) = eval o X.env := by rfl)
  (hfew : ((backTo cpos (starEach [.Constant (.str y) k1 p1, .Constant (.str z) k2 p2] X.env)).all (fun x => !x.1) && (backToKw cpos (keywordEach [] X.env)).all (fun x => x.1.isSome)
   && decide (([.Constant (.str y) k1 p1, .Constant (.str z) k2 p2] : List Expr).length + ([] : List Keyword).length + (if ([] : List Keyword).isEmpty then 0 else 1) < 30)) = true := by rfl)
  (hline : (apos.endLine == cpos.line) = true := by rfl) :
  PE X (.Call (.Attribute o "replace" apos) [.Constant (.str y) k1 p1, .Constant (.str z) k2 p2] [] cpos) (tRepl y z to) := by
 intro pins s σ H Q I h
 refine wpAny_Call_method_late hbase hfew hline rfl (thn (ho pins s σ H _ I h) fun v s1 ⟨hn, x, H1, I1, r1, t, ex, ht, q1⟩ => ?_)
 subst ex
 obtain ⟨h1, h2⟩ := Zic (T := "str") I1 r1 rfl
 obtain ⟨tk, rfl⟩ := r1
 refine ⟨"str", "str.replace", PySem.F.plainAttrs_str, PySem.F.slot_str_replace, PySem.F.type_str_replace, h1, h2, ?_⟩
 ·refine Calls.callWith_builtin rfl (Calls.evalArgs_plain ?_)
  refine Calls.spliced_cons (Calls.Constant_str (k := k1) (pos := p1) ?_)
  refine Calls.spliced_cons (Calls.Constant_str (k := k2) (pos := p2) ?_)
  refine Calls.spliced_nil ?_
  refine SC.replaceW (Nat.pos_iff_ne_zero.mp hn) (Nat.succ_ne_zero _) (Nat.ne_of_lt (Nat.lt_succ_self _)) hyz (by lia) hz fun t' k => ?_
  exact ⟨.str _, H1, I1.tok _, ⟨_, rfl⟩, q1⟩
end
end L2
end
section
namespace L2
open PySem PySem.Spec PyProof.Rows
noncomputable def rNeE (K : PySem.W.Frag) : R2 := fun x y H Q => ∃ a b xs, x = .ref a /\ y = .ref b /\ SqL K H a xs /\ SqL K H b [] /\ Q (.bl (!decide (xs = []))) H
theorem op_neE {X : Cx} (hu : X.A.units + 64 < cLine) : OpR X (compareOp .NotEq) (rNeE X.K) := by
 rintro pins s σ H x y v u Q I rx ry ⟨a, b, xs, rfl, rfl, ha, hb, q⟩
 by_cases hx : xs = []
 ·subst hx
  refine Zlj hu pins s σ H _ _ v u Q I rx ry ⟨a, b, [], [], [], [], rfl, rfl, ha, hb, ZaT, ZaT, rfl, rfl, by simp [D.deps], ?_⟩
  rw [Zcl]
  simpa using q
 ·cases rx; cases ry
  obtain ⟨its, vx, ht, _⟩ := I.list ha
  obtain ⟨its', vy, ht', _⟩ := I.list hb
  have l1 := vx.length
  have l2 := vy.length
  have hl : its.length ≠ its'.length := by
   have : 0 < xs.length := List.length_pos_iff.mpr hx
   have l2 : 0 = its'.length := l2
   lia
  refine SeqAt.RcNeAt.lists_lengths ht.isList ht'.isList (by simpa using hl) (by lia) _ _ _ _ (ZaN I q ?_)
  simp [hx]
theorem k_neE {X : Cx} {K : PySem.W.Frag} (h : X.K = K) (hu : X.A.units + 64 < cLine) : OpR X (compareOp .NotEq) (rNeE K) := h ▸ op_neE hu
theorem Zld {K : PySem.W.Frag} {H : Hp} {a b : Addr} {xs : List V} {Q : VK} (h1 : H a = some (.lst xs)) (h2 : H b = some (.lst [])) (q : Q (.bl (!decide (xs = []))) H) : rNeE K (.ref a) (.ref b) H Q := ⟨a, b, xs, rfl, rfl, SqL.of h1, SqL.of h2, q⟩
end L2
end
section
namespace L2
open PySem PySem.Spec PyProof.Rows PySem.Builtin PySem.Builtin.Str PySem.NumText
theorem ZiN {l : List Nat} {k : Nat} : (List.range k).filterMap (fun i => l[i]?) = l.take k := by
  induction k with
  | zero => simp
  | succ k ih =>
    rw [List.range_succ, List.filterMap_append, ih, List.take_add_one]
    cases h' : l[k]? <;> simp [h']
theorem sl_to {z : Str} {a : Int} : ∃ k, cs (Txt.slice z none (some a)) = (cs z).take k := by
 unfold Txt.slice
 split
 ·exact ⟨z.length, by rw [<- ZaO, List.take_length]⟩
 ·unfold strSliceIndices sliceRange
  simp only [show (1 : Int) > 0 by decide, if_true]
  generalize (if (0 : Int) < _ then _ else _ : Int).toNat = k
  refine ⟨k, ?_⟩
  rw [<- ZiN, List.filterMap_map]
  show (List.filterMap _ (List.range k)) = _
  refine congrArg (fun f => List.filterMap f (List.range k)) (funext fun i => ?_)
  show z.cps[(0 + 1 * (i : Int)).toNat]? = z.cps.toList[i]?
  rw [show (0 + 1 * (i : Int)).toNat = i by lia, Array.getElem?_toList]
theorem Zit {z : Str} {a : Int} (h : 0 <= a) : ∃ k, cs (Txt.slice z (some a) none) = (cs z).drop k := by
 by_cases ha : a <= z.length
 ·refine ⟨a.toNat, ?_⟩
  rw [slice_from_eq (b := z.length) h ha rfl]
  show ((z.cps.toList.drop a.toNat).take ((z.length : Int) - a).toNat) = _
  rw [List.take_of_length_le]
  rw [List.length_drop]
  have : z.cps.toList.length = z.length := ZaO z
  lia
 ·refine ⟨z.length, ?_⟩
  have h1 := Zhf (z := z) (l := some a) (u := none) (k := 0) (by have := Zjp (n := z.length) h; lia)
  have e0 : cs (Txt.slice z (some a) none) = [] := List.eq_nil_of_length_eq_zero (by rw [ZaO]; lia)
  rw [e0, List.drop_eq_nil_of_le (by rw [ZaO]; exact Nat.le_refl _)]
noncomputable def LnW (M : Nat) (l : List Nat) : Prop := ∀ u v w, l = u ++ v ++ w -> 10 ∉ v -> v.length <= M
theorem LnW.take {M : Nat} {l : List Nat} (h : LnW M l) (k : Nat) : LnW M (l.take k) := fun u v w e n => h u v (w ++ l.drop k) (by rw [<- List.append_assoc, <- e, List.take_append_drop]) n
theorem LnW.drop {M : Nat} {l : List Nat} (h : LnW M l) (k : Nat) : LnW M (l.drop k) := fun u v w e n => h (l.take k ++ u) v w (by rw [List.append_assoc, List.append_assoc, <- List.append_assoc u, <- e, List.take_append_drop]) n
theorem LnW.app {M N : Nat} {a b : List Nat} (h1 : LnW M a) (h2 : LnW N b) : LnW (M + N) (a ++ b) := fun u v w e n => by
 rw [List.append_assoc] at e
 rcases List.append_eq_append_iff.mp e with ⟨c, e1, e2⟩ | ⟨c, e1, e2⟩
 ·-- u = a ++ c
  have := h2 c v w (by rw [e2, List.append_assoc]) n
  lia
 ·-- a = u ++ c, c ++ b = v ++ w
  rcases List.append_eq_append_iff.mp e2.symm with ⟨d, e3, e4⟩ | ⟨d, e3, e4⟩
  ·-- v = c ++ d, b = d ++ w
   have g1 := h1 u c [] (by rw [e1, List.append_nil]) fun z => n (by rw [e3]; exact List.mem_append_left _ z)
   have g2 := h2 [] d w (by rw [e4]; rfl) fun z => n (by rw [e3]; exact List.mem_append_right _ z)
   rw [e3, List.length_append]
   lia
  ·have g1 := h1 u v d (by rw [e1, e3, List.append_assoc]) n
   lia
theorem LnW.len {l : List Nat} : LnW l.length l := fun u v w e n => by rw [e, List.length_append, List.length_append]; lia
theorem LnW.mono {M N : Nat} {l : List Nat} (h : LnW M l) (k : M <= N) : LnW N l := fun u v w e n => Nat.le_trans (h u v w e n) k
theorem LnW.sep {M : Nat} {a b : List Nat} (h1 : LnW M a) (h2 : LnW M b) : LnW M (a ++ 10 :: b) := fun u v w e n => by
  rw [List.append_assoc] at e
  rcases List.append_eq_append_iff.mp e with ⟨c, e1, e2⟩ | ⟨c, e1, e2⟩
  · cases c with
    | nil =>
      cases v with
      | nil => exact Nat.zero_le _
      | cons x v => simp at e2; exact absurd (by rw [<- e2.1]; exact List.mem_cons_self) n
    | cons x c =>
      simp at e2
      exact h2 c v w (by rw [e2.2, List.append_assoc]) n
  · rcases List.append_eq_append_iff.mp e2.symm with ⟨d, e3, e4⟩ | ⟨d, e3, e4⟩
    · cases d with
      | nil =>
        rw [List.append_nil] at e3
        exact h1 u v [] (by rw [e1, e3, List.append_nil]) n
      | cons x d =>
        simp at e4
        exact absurd (by rw [e3, <- e4.1]; exact List.mem_append_right _ List.mem_cons_self) n
    · exact h1 u v d (by rw [e1, e3, List.append_assoc]) n
theorem LnW.jn {M : Nat} : ∀ {ps : List (List Nat)}, (∀ p ∈ ps, LnW M p) -> LnW M (jn 10 ps)
  | [], _ => fun u v w e n => by
    have := congrArg List.length e
    simp [L2.jn] at this
    lia
  | [p], h => h p List.mem_cons_self
  | p :: q :: r, h => by
    show LnW M (p ++ 10 :: L2.jn 10 (q :: r))
    exact LnW.sep (h p List.mem_cons_self) (LnW.jn fun x hx => h x (List.mem_cons_of_mem _ hx))
theorem ZkP {c : Nat} : ∀ {ps : List (List Nat)} {p : List Nat}, p ∈ ps -> ∃ u w, jn c ps = u ++ p ++ w
  | [x], p, h => by rw [List.mem_singleton.mp h]; exact ⟨[], [], by simp [jn]⟩
  | x :: y :: r, p, h => by
    show ∃ u w, x ++ c :: jn c (y :: r) = u ++ p ++ w
    rcases List.mem_cons.mp h with rfl | h
    · exact ⟨[], c :: jn c (y :: r), by simp⟩
    · obtain ⟨u, w, e⟩ := ZkP h
      exact ⟨x ++ c :: u, w, by rw [e]; simp⟩
theorem ZjF : ∀ {ps : List (List Nat)}, ps ≠ [] -> (∀ p ∈ ps, 10 ∉ p) -> (jn 10 ps).count 10 + 1 = ps.length
  | [], h, _ => absurd rfl h
  | [p], _, h => by
    show p.count 10 + 1 = 1
    rw [List.count_eq_zero.mpr (h p List.mem_cons_self)]
  | p :: q :: r, _, h => by
    have := ZjF (ps := q :: r) (List.cons_ne_nil _ _) fun x hx => h x (List.mem_cons_of_mem _ hx)
    show (p ++ 10 :: jn 10 (q :: r)).count 10 + 1 = _
    rw [List.count_append, List.count_eq_zero.mpr (h p List.mem_cons_self), List.count_cons_self]
    simp only [List.length_cons] at this ⊢
    lia
structure TB (L F M : Nat) (t : Str) : Prop where
 asc : Zbl t
 len : t.length <= L
 fd : (cs t).count 10 <= F
 ln : LnW M (cs t)
theorem TB.lines {L F M : Nat} {t : Str} (h : TB L F M t) : (Txt.split t ⟨#[10]⟩).length <= F + 1 /\ ∀ p ∈ Txt.split t ⟨#[10]⟩, Zbl p /\ p.length <= M /\ 10 ∉ cs p := by
 have e := congrArg cs (StrLaws.join_split t ⟨#[10]⟩)
 rw [ZbA] at e
 have fr := StrLaws.split_free t 10
 constructor
 ·have := ZjF (ps := (Txt.split t ⟨#[10]⟩).map cs) (fun z => ZbN _ _ (List.map_eq_nil_iff.mp z)) (fun p hp => by
   obtain ⟨q, hq, rfl⟩ := List.mem_map.mp hp
   exact fr q hq)
  rw [e, List.length_map] at this
  have := h.fd
  lia
 ·intro p hp
  obtain ⟨u, w, e2⟩ := ZkP (c := 10) (List.mem_map.mpr ⟨p, hp, rfl⟩ : cs p ∈ (Txt.split t ⟨#[10]⟩).map cs)
  rw [e] at e2
  refine ⟨asc_mem.mpr fun x hx => asc_mem.mp h.asc x (by rw [e2]; exact List.mem_append_left _ (List.mem_append_right _ hx)), ?_, fr p hp⟩
  have := h.ln u (cs p) w e2 (fr p hp)
  rw [ZaO] at this
  exact this
theorem TB.join {N F M : Nat} {ls : List Str} (hne : ls ≠ []) (hl : ls.length <= F + 1) (h : ∀ p ∈ ls, Zbl p /\ p.length <= M /\ 10 ∉ cs p) (hs : (ls.map (·.length)).sum + ls.length <= N + 1) : TB N F M (Str.join ⟨#[10]⟩ ls) := by
  have hn : ls.map cs ≠ [] := fun z => hne (List.map_eq_nil_iff.mp z)
  refine ⟨Zeq (asc_mem.mpr fun c hc => by rw [List.mem_singleton.mp hc]; decide) fun p hp => (h p hp).1, ?_, ?_, ?_⟩
  · rw [<- ZaO, ZbA]
    have : ∀ {ps : List (List Nat)}, ps ≠ [] -> (jn 10 ps).length + 1 = (ps.map (·.length)).sum + ps.length := by
      intro ps
      induction ps with
      | nil => intro h; exact absurd rfl h
      | cons x r ih =>
        intro _
        cases r with
        | nil => show x.length + 1 = (x.length + 0) + 1; lia
        | cons y r =>
          have := ih (List.cons_ne_nil _ _)
          show (x ++ 10 :: jn 10 (y :: r)).length + 1 = (x.length + ((y :: r).map (·.length)).sum) + ((y :: r).length + 1)
          rw [List.length_append, List.length_cons]
          lia
    have h2 := this hn
    rw [List.length_map, List.map_map] at h2
    have h3 : (ls.map ((fun x : List Nat => x.length) ∘ cs)).sum = (ls.map (·.length)).sum := by congr 1
    lia
  · rw [ZbA]
    have := ZjF hn (fun p hp => by
      obtain ⟨q, hq, rfl⟩ := List.mem_map.mp hp
      exact (h q hq).2.2)
    rw [List.length_map] at this
    lia
  · rw [ZbA]
    refine LnW.jn fun p hp => ?_
    obtain ⟨q, hq, rfl⟩ := List.mem_map.mp hp
    have := (h q hq).2.1
    rw [<- ZaO] at this
    exact LnW.len.mono this
theorem TB.put {L F M : Nat} {t t' r : Str} {i j : Nat} (h : TB L F M t) (hr : r.length <= 12) (ha : Zbl r) (e : cs t' = (cs t).take i ++ cs r ++ (cs t).drop j) (hl : t'.length <= L + 12) : TB (L + 12) (F + F + 12) (2 * M + 12) t' := by
 have hrc : (cs r).length <= 12 := by rw [ZaO]; exact hr
 refine ⟨asc_mem.mpr fun c hc => ?_, hl, ?_, ?_⟩
 ·rw [e] at hc
  rcases List.mem_append.mp hc with hc | hc
  ·rcases List.mem_append.mp hc with hc | hc
   ·exact asc_mem.mp h.asc c (List.mem_of_mem_take hc)
   ·exact asc_mem.mp ha c hc
  ·exact asc_mem.mp h.asc c (List.mem_of_mem_drop hc)
 ·rw [e, List.count_append, List.count_append]
  have h1 := (List.take_sublist i (cs t)).count_le 10
  have h2 := (List.drop_sublist j (cs t)).count_le 10
  have h3 := List.count_le_length (a := 10) (l := cs r)
  have := h.fd
  lia
 ·rw [e]
  refine (((h.ln.take i).app (LnW.len (l := cs r))).app (h.ln.drop j)).mono ?_
  lia
inductive PutIn (t t' : Str) : Prop
 | mk (i j r) (_ : cs t' = (cs t).take i ++ cs r ++ (cs t).drop j) (_ : r.length <= 12) (_ : Zbl r) : PutIn t t'
theorem put3 {t r : Str} {a b : Int} (hb : 0 <= b) (hr : r.length <= 12) (ha : Zbl r) : PutIn t (Txt.slice t none (some a) ++ r ++ Txt.slice t (some b) none) := by
 obtain ⟨i, ei⟩ := sl_to (z := t) (a := a)
 obtain ⟨j, ej⟩ := Zit (z := t) hb
 exact ⟨i, j, r, by rw [Zbc, Zbc, ei, ej], hr, ha⟩
theorem put2 {t : Str} {a b : Int} (hb : 0 <= b) : PutIn t (Txt.slice t none (some a) ++ Txt.slice t (some b) none) := by
 obtain ⟨i, ei⟩ := sl_to (z := t) (a := a)
 obtain ⟨j, ej⟩ := Zit (z := t) hb
 exact ⟨i, j, Str.empty, by rw [Zbc, ei, ej, show cs Str.empty = [] from rfl, List.append_nil], Nat.zero_le _, asc_mem.mpr fun c hc => by cases hc⟩
theorem Zjn {c : Nat} : ∀ {ps : List (List Nat)}, ps.flatten.length <= (jn c ps).length /\ ∀ x ∈ ps.flatten, x ∈ jn c ps
  | [] => ⟨Nat.le_refl _, fun x hx => hx⟩
  | [p] => by
    show (p ++ []).length <= p.length /\ ∀ x ∈ p ++ [], x ∈ p
    rw [List.append_nil]
    exact ⟨Nat.le_refl _, fun x hx => hx⟩
  | p :: q :: r => by
    obtain ⟨h1, h2⟩ := Zjn (c := c) (ps := q :: r)
    show (p ++ (q :: r).flatten).length <= (p ++ c :: jn c (q :: r)).length /\ ∀ x ∈ p ++ (q :: r).flatten, x ∈ p ++ c :: jn c (q :: r)
    rw [List.length_append, List.length_append, List.length_cons]
    refine ⟨by lia, fun x hx => ?_⟩
    rcases List.mem_append.mp hx with hx | hx
    · exact List.mem_append_left _ hx
    · exact List.mem_append_right _ (List.mem_cons_of_mem _ (h2 x hx))
theorem ZfT : ∀ (zs : List Str), cs (Str.join Str.empty zs) = (zs.map cs).flatten
  | [] => rfl
  | [x] => by simp [Str.join]
  | x :: y :: r => by
    show cs (x ++ Str.empty ++ Str.join Str.empty (y :: r)) = _
    rw [Zbc, Zbc, ZfT (y :: r), show cs Str.empty = [] from rfl, List.append_nil]
    rfl
theorem ZiA (x : Str) : 10 ∉ cs (Txt.replace x ⟨#[10]⟩ Str.empty) /\ (Txt.replace x ⟨#[10]⟩ Str.empty).length <= x.length /\ ∀ c ∈ cs (Txt.replace x ⟨#[10]⟩ Str.empty), c ∈ cs x := by
 obtain ⟨f, hG, hn⟩ := StrLaws.occ_tight x ⟨#[10]⟩ (Nat.le_refl 1)
 unfold Txt.replace
 split
 ·next h =>
  have e0 : occurrences x ⟨#[10]⟩ 0 x.length (x.length + 1) = [] := by
   rcases Bool.or_eq_true _ _ ▸ h with h | h
   ·exact List.isEmpty_iff.mp h
   ·simp [Str.length] at h
  rw [e0] at hG
  have ef : f = 0 := hG
  subst ef
  refine ⟨?_, Nat.le_refl _, fun c hc => hc⟩
  rw [<- StrLaws.sub_whole x]
  exact StrLaws.part_free x 10 0 x.length (Nat.le_refl _) fun k h1 _ => hn k h1
 ·have ej : Str.join ⟨#[10]⟩ (partsBetween x (occurrences x ⟨#[10]⟩ 0 x.length (x.length + 1)) (⟨#[10]⟩ : Str).length) = x := by
   obtain ⟨f, h⟩ := StrLaws.occ_chain x ⟨#[10]⟩ (x.length + 1)
   rw [StrLaws.partsBetween_eq, StrLaws.join_partsFrom x ⟨#[10]⟩ _ 0 f h, StrLaws.sub_whole]
  have hf : ∀ p ∈ partsBetween x (occurrences x ⟨#[10]⟩ 0 x.length (x.length + 1)) (⟨#[10]⟩ : Str).length, 10 ∉ cs p := by
   rw [StrLaws.partsBetween_eq]
   exact StrLaws.parts_free x 10 _ 0 f hG hn
  rw [StrLaws.glued_eq_join]
  generalize partsBetween x (occurrences x ⟨#[10]⟩ 0 x.length (x.length + 1)) (⟨#[10]⟩ : Str).length = ps at ej hf
  have e1 := congrArg cs ej
  rw [ZbA] at e1
  obtain ⟨g1, g2⟩ := Zjn (c := 10) (ps := ps.map cs)
  rw [e1] at g1 g2
  rw [ZfT]
  refine ⟨fun z => ?_, ?_, g2⟩
  ·obtain ⟨l, hl, z⟩ := List.mem_flatten.mp z
   obtain ⟨p, hp, rfl⟩ := List.mem_map.mp hl
   exact hf p hp z
  ·rw [<- ZaO, ZfT, <- ZaO x]
   exact g1
theorem Zia : ∀ c : Fin 128, (Unicode.upperOf c.val).length = 1 /\ (Unicode.upperOf c.val).headD 0 < 128 /\ ((Unicode.upperOf c.val).headD 0 = 10 -> c.val = 10) := by decide +kernel
theorem Zib : ∀ {l : List Nat}, (∀ c ∈ l, c < 128) -> (l.map Unicode.upperOf).flatten = l.map fun c => (Unicode.upperOf c).headD 0
  | [], _ => rfl
  | c :: l, h => by
    have h1 := (Zia ⟨c, h c List.mem_cons_self⟩).1
    rw [List.map_cons, List.flatten_cons, Zib fun x hx => h x (List.mem_cons_of_mem _ hx), List.map_cons]
    generalize Unicode.upperOf c = u at h1
    rcases u with _ | ⟨d, _ | ⟨e, r⟩⟩
    · cases h1
    · rfl
    · simp at h1
theorem Zj0 {x : Str} (h : Zbl x) : cs (Txt.upper x) = (cs x).map fun c => (Unicode.upperOf c).headD 0 := by
 rw [<- Zib (asc_mem.mp h)]
 unfold Txt.upper placed
 show (Array.flatten (x.cps.mapIdx fun i c => (Unicode.upperOf c).toArray)).toList = _
 rw [Array.toList_flatten, Array.toList_mapIdx]
 congr 1
 refine List.ext_getElem? fun i => ?_
 rw [List.getElem?_map, List.getElem?_mapIdx, List.getElem?_map]
 cases (cs x)[i]? <;> rfl
theorem Zfq {x : Str} (h : Zbl x) : Zbl (Txt.upper x) /\ (Txt.upper x).length = x.length /\ (10 ∉ cs x -> 10 ∉ cs (Txt.upper x)) := by
 have e := Zj0 h
 refine ⟨asc_mem.mpr fun c hc => ?_, ?_, fun n z => ?_⟩
 ·rw [e] at hc
  obtain ⟨d, hd, rfl⟩ := List.mem_map.mp hc
  exact (Zia ⟨d, asc_mem.mp h d hd⟩).2.1
 ·rw [<- ZaO, e, List.length_map, ZaO]
 ·rw [e] at z
  obtain ⟨d, hd, hz⟩ := List.mem_map.mp z
  have := (Zia ⟨d, asc_mem.mp h d hd⟩).2.2 hz
  have : d = 10 := this
  rw [<- this] at n
  exact n hd
section
variable {X : Cx}
noncomputable def Zlg : V -> List V -> Hp -> VK -> Prop := fun x xs H Q => ∃ z, x = .str z /\ xs = [] /\ Zbl z /\ z.length <= 1000000 /\ Q (.str (Txt.upper z)) H
theorem ZkF : MtR X "str.upper" Zlg := by
 intro pins s σ H x xs v us Q I rx r h
 obtain ⟨z, rfl, rfl, az, hz, q⟩ := h
 obtain ⟨t, rfl⟩ := rx
 cases r
 refine SC.upper ?_ ⟨.str _, H, I.tok _, ⟨_, rfl⟩, q⟩
 unfold tooLong
 exact decide_eq_false (by rw [(Zfq az).2.1, PySem.sizeLine_eq]; lia)
theorem Zhj {z : Str} {H : Hp} {Q : VK} (h : Zbl z) (hz : z.length <= 1000000) (q : Q (.str (Txt.upper z)) H) : Zlg (.str z) [] H Q := ⟨z, rfl, rfl, h, hz, q⟩
end
theorem Zeo {c : Nat} : ∀ {ps : List (List Nat)}, ps ≠ [] -> (jn c ps).length + 1 = (ps.map (·.length)).sum + ps.length
  | [], h => absurd rfl h
  | [x], _ => by show x.length + 1 = (x.length + 0) + 1; lia
  | x :: y :: r, _ => by
    have := Zeo (c := c) (ps := y :: r) (List.cons_ne_nil _ _)
    show (x ++ c :: jn c (y :: r)).length + 1 = (x.length + ((y :: r).map (·.length)).sum) + ((y :: r).length + 1)
    rw [List.length_append, List.length_cons]
    lia
end L2
end
section
namespace L2
open PySem PySem.Spec PyProof.Rows PySem.Builtin PySem.Builtin.Str PySem.NumText
noncomputable def Lin (M : Nat) (p : Str) : Prop := Zbl p /\ p.length <= M /\ 10 ∉ cs p
structure LSt (S C M : Nat) (ls : List Str) : Prop where
 cnt : ls.length <= C
 all : ∀ p ∈ ls, Lin M p
 sz : (ls.map (·.length)).sum + ls.length <= S
theorem Lin.up {M N : Nat} {p : Str} (h : Lin M p) (k : M <= N) : Lin N p := ⟨h.1, Nat.le_trans h.2.1 k, h.2.2⟩
theorem LSt.up {S C M S' C' M' : Nat} {ls : List Str} (h : LSt S C M ls) (h1 : S <= S') (h2 : C <= C') (h3 : M <= M') : LSt S' C' M' ls := ⟨Nat.le_trans h.cnt h2, fun p hp => (h.all p hp).up h3, Nat.le_trans h.sz h1⟩
theorem Zet {t : Str} {c : Nat} : ((Txt.split t ⟨#[c]⟩).map (·.length)).sum + (Txt.split t ⟨#[c]⟩).length = t.length + 1 := by
 have e := congrArg cs (StrLaws.join_split t ⟨#[c]⟩)
 rw [ZbA] at e
 have h := Zeo (c := c) (ps := (Txt.split t ⟨#[c]⟩).map cs) (fun z => ZbN _ _ (List.map_eq_nil_iff.mp z))
 rw [e, ZaO, List.length_map, List.map_map] at h
 have h3 : ((Txt.split t ⟨#[c]⟩).map ((fun x : List Nat => x.length) ∘ cs)).sum = ((Txt.split t ⟨#[c]⟩).map (·.length)).sum := by congr 1
 lia
theorem TB.lst {L F M : Nat} {t : Str} (h : TB L F M t) : LSt (L + 1) (F + 1) M (Txt.split t ⟨#[10]⟩) := ⟨h.lines.1, h.lines.2, by have := Zet (t := t) (c := 10); have := h.len; lia⟩
theorem LSt.tb {N F M : Nat} {ls : List Str} (h : LSt (N + 1) (F + 1) M ls) : TB N F M (Str.join ⟨#[10]⟩ ls) := by
 by_cases hn : ls = []
 ·rw [hn]
  have e : cs (Str.join ⟨#[10]⟩ []) = [] := rfl
  refine ⟨asc_mem.mpr fun c hc => ?_, Nat.zero_le _, ?_, fun u v w e2 n => ?_⟩
  ·rw [e] at hc; cases hc
  ·rw [e]; exact Nat.zero_le _
  ·have := congrArg List.length e2
   rw [e] at this
   simp at this
   lia
 ·exact TB.join hn h.cnt h.all h.sz
theorem Zf4 : ∀ (k : Nat) (l : List Nat), (l.drop k).sum <= l.sum
  | 0, l => Nat.le_refl _
  | k + 1, [] => Nat.le_refl _
  | k + 1, x :: l => by
    have := Zf4 k l
    rw [List.drop_succ_cons, List.sum_cons]
    lia
theorem Zly {i j : Nat} (h : i <= j) (l : List Nat) : (l.take i).sum + (l.drop j).sum <= l.sum := by
 have e : (l.take i).sum + (l.drop i).sum = l.sum := by rw [<- List.sum_append, List.take_append_drop]
 have := Zf4 (j - i) (l.drop i)
 rw [List.drop_drop, show i + (j - i) = j by lia] at this
 lia
theorem LSt.ins {S C M s c : Nat} {ls xs : List Str} {i j : Nat} (h : LSt S C M ls) (hij : i <= j) (hx : LSt s c M xs) : LSt (S + s) (C + c) M (ls.take i ++ xs ++ ls.drop j) := by
 have h1 : (ls.take i).length + (ls.drop j).length <= ls.length := by
  rw [List.length_take, List.length_drop]
  lia
 refine ⟨?_, fun p hp => ?_, ?_⟩
 ·have := h.cnt
  have := hx.cnt
  simp only [List.length_append]
  lia
 ·rcases List.mem_append.mp hp with hp | hp
  ·rcases List.mem_append.mp hp with hp | hp
   ·exact h.all p (List.mem_of_mem_take hp)
   ·exact hx.all p hp
  ·exact h.all p (List.mem_of_mem_drop hp)
 ·have h2 := Zly hij (ls.map (·.length))
  have := h.sz
  have := hx.sz
  rw [List.map_append, List.map_append, List.sum_append, List.sum_append, List.map_take, List.map_drop]
  simp only [List.length_append]
  lia
theorem LSt.nil {M : Nat} : LSt 0 0 M [] := ⟨Nat.le_refl _, (fun p hp => by cases hp), Nat.le_refl _⟩
theorem LSt.one {M m : Nat} {x : Str} (h : Lin M x) (hm : x.length <= m) : LSt (m + 1) 1 M [x] := ⟨Nat.le_refl _, (fun p hp => by rw [List.mem_singleton.mp hp]; exact h), by simpa using hm⟩
theorem LSt.rep {M m n : Nat} {x : Str} (h : Lin M x) (hm : x.length <= m) : LSt ((m + 1) * n) n M (List.replicate n x) := by
 refine ⟨by rw [List.length_replicate]; exact Nat.le_refl _, (fun p hp => by rw [List.eq_of_mem_replicate hp]; exact h), ?_⟩
 rw [List.map_replicate, List.sum_replicate_nat, List.length_replicate, Nat.add_mul, Nat.mul_comm n]
 have := Nat.mul_le_mul_right n hm
 lia
theorem LSt.cut {S C M : Nat} {ls : List Str} {i j : Nat} (h : LSt S C M ls) (hij : i <= j) : LSt S C M (ls.take i ++ ls.drop j) := by
 have := h.ins hij (LSt.nil (M := M))
 rw [List.append_nil] at this
 exact this
theorem LSt.set {S C M m : Nat} {ls : List Str} {x : Str} {i : Nat} (h : LSt S C M ls) (hx : Lin M x) (hm : x.length <= m) : LSt (S + (m + 1)) (C + 1) M (ls.set i x) := by
 by_cases hi : i < ls.length
 ·rw [List.set_eq_take_append_cons_drop, if_pos hi]
  have := h.ins (Nat.le_succ i) (LSt.one hx hm)
  rw [List.append_assoc] at this
  exact this
 ·rw [List.set_eq_of_length_le (by lia)]
  exact h.up (by lia) (by lia) (Nat.le_refl _)
theorem Lin.words {M : Nat} {x : Str} (h : Lin M x) : LSt (M + 1) (M + 1) M (Txt.split x ⟨#[32]⟩) := by
 have hs := Zet (t := x) (c := 32)
 have hl := h.2.1
 refine ⟨by lia, fun p hp => ?_, by lia⟩
 have e := congrArg cs (StrLaws.join_split x ⟨#[32]⟩)
 rw [ZbA] at e
 obtain ⟨u, w, e2⟩ := ZkP (c := 32) (List.mem_map.mpr ⟨p, hp, rfl⟩ : cs p ∈ (Txt.split x ⟨#[32]⟩).map cs)
 rw [e] at e2
 have hm : ∀ c ∈ cs p, c ∈ cs x := fun c hc => by rw [e2]; exact List.mem_append_left _ (List.mem_append_right _ hc)
 refine ⟨asc_mem.mpr fun c hc => asc_mem.mp h.1 c (hm c hc), ?_, fun z => h.2.2 (hm _ z)⟩
 have := congrArg List.length e2
 rw [List.length_append, List.length_append, ZaO, ZaO] at this
 lia
theorem LSt.line {N C M : Nat} {ls : List Str} (h : LSt (N + 1) C M ls) : Lin N (Str.join ⟨#[32]⟩ ls) := by
  by_cases hn : ls = []
  · rw [hn]
    have e : cs (Str.join ⟨#[32]⟩ []) = [] := rfl
    exact ⟨asc_mem.mpr fun c hc => (by rw [e] at hc; cases hc), Nat.zero_le _, (by rw [e]; exact List.not_mem_nil)⟩
  · refine ⟨Zeq (asc_mem.mpr fun c hc => by rw [List.mem_singleton.mp hc]; decide) fun p hp => (h.all p hp).1, ?_, fun z => ?_⟩
    · have := Zeo (c := 32) (ps := ls.map cs) (fun z => hn (List.map_eq_nil_iff.mp z))
      rw [<- ZaO, ZbA]
      rw [List.length_map, List.map_map] at this
      have h3 : (ls.map ((fun x : List Nat => x.length) ∘ cs)).sum = (ls.map (·.length)).sum := by congr 1
      have := h.sz
      lia
    · rw [ZbA] at z
      have : ∀ {ps : List (List Nat)}, (∀ p ∈ ps, 10 ∉ p) -> 10 ∉ jn 32 ps := by
        intro ps
        induction ps with
        | nil => exact fun _ z => by cases z
        | cons x r ih =>
          intro hh
          cases r with
          | nil => exact hh x List.mem_cons_self
          | cons y r =>
            have h2 := ih fun p hp => hh p (List.mem_cons_of_mem _ hp)
            show 10 ∉ x ++ 32 :: jn 32 (y :: r)
            intro z
            rcases List.mem_append.mp z with z | z
            · exact hh x List.mem_cons_self z
            · rcases List.mem_cons.mp z with z | z
              · cases z
              · exact h2 z
      refine this (fun p hp => ?_) z
      obtain ⟨q, hq, rfl⟩ := List.mem_map.mp hp
      exact (h.all q hq).2.2
theorem ZmR {ls : List Str} {k : Nat} : cutV (ls.map V.str) none (some (k : Int)) = (ls.take k).map V.str := by
 rw [List.map_take]
 generalize ls.map V.str = xs
 rcases Nat.le_total k xs.length with h | h
 ·exact cut_to h
 ·unfold cutV
  have h1 : HT.sIx xs.length xs.length (some (k : Int)) = xs.length := by
   rw [Zex]
   lia
  have h2 : HT.sIx xs.length 0 none = 0 := rfl
  rw [h1, h2, List.take_of_length_le h]
  simp
theorem ZjD {ls : List Str} {k : Nat} : cutV (ls.map V.str) (some (k : Int)) none = (ls.drop k).map V.str := by
 rw [List.map_drop]
 generalize ls.map V.str = xs
 rcases Nat.le_total k xs.length with h | h
 ·exact ZcV h
 ·unfold cutV
  have h1 : HT.sIx xs.length 0 (some (k : Int)) = xs.length := by
   rw [Zex]
   lia
  rw [h1, List.drop_eq_nil_of_le h, List.drop_length]
  simp
theorem Zdp {H : Hp} {l b : Addr} {xs zs : List Str} {Q : VK} (h1 : H l = some (.lst (xs.map V.str))) (h2 : H b = some (.lst (zs.map V.str))) (hl : xs.length + zs.length <= 1000000) (q : ∀ p H', H p = none -> Same H H' -> H' p = some (.lst ((xs ++ zs).map V.str)) -> Q (.ref p) H') : rCat (.ref l) (.ref b) H Q :=
 Zhk h1 h2 (by rw [List.length_map, List.length_map]; exact Nat.le_trans hl (by rw [PySem.sizeLine_eq]; decide)) fun p hp => q p _ hp (Same.new hp) (by rw [Zae, List.map_append])
theorem ZiD {K : PySem.W.Frag} {H : Hp} {a : Addr} {ls : List Str} {x : Int} {i : Nat} {Q : VK} (h : H a = some (.lst (ls.map V.str))) (e : x = i) (q : ∀ p H', H p = none -> Same H H' -> H' p = some (.lst ((ls.take i).map V.str)) -> Q (.ref p) H') : rSlL K (.ref a) none (some x) H Q :=
 ZdB (SqL.of h) fun p hp => q p _ hp (Same.new hp) (by rw [Zae, e, ZmR])
theorem Zek {K : PySem.W.Frag} {H : Hp} {a : Addr} {ls : List Str} {x : Int} {i : Nat} {Q : VK} (h : H a = some (.lst (ls.map V.str))) (e : x = i) (q : ∀ p H', H p = none -> Same H H' -> H' p = some (.lst ((ls.drop i).map V.str)) -> Q (.ref p) H') : rSlL K (.ref a) (some x) none H Q :=
 ZdB (SqL.of h) fun p hp => q p _ hp (Same.new hp) (by rw [Zae, e, ZjD])
theorem ZdA {z : Str} {c : Nat} {y : Str} {H : Hp} {Q : VK} (hy : y = ⟨#[c]⟩) (hz : z.length <= 1000000) (q : ∀ p H', H p = none -> Same H H' -> H' p = some (.lst ((Txt.split z ⟨#[c]⟩).map V.str)) -> Q (.ref p) H') : ZiR (.str z) [.str y] H Q := by
 subst hy
 exact Zdb rfl (by rw [PySem.sizeLine_eq]; lia) fun p hp => q p _ hp (Same.new hp) Zae
theorem Zhs (x : Int) {n : Nat} (h : 0 < n) : ∃ a : Nat, x % (n : Int) = a /\ a < n := ⟨(x % (n : Int)).toNat, (Int.toNat_of_nonneg (Int.emod_nonneg _ (by lia))).symm, by
  have h1 := Int.emod_nonneg x (b := (n : Int)) (by lia)
  have h2 := Int.emod_lt_of_pos x (b := (n : Int)) (by lia)
  lia⟩
theorem Same.wrF {H H1 : Hp} {a : Addr} {o : HO} (s : Same H H1) (h : H a = none) : Same H (upd H1 a o) := fun b u e => by
 rw [Zaw (fun z => by rw [z, h] at e; cases e)]
 exact s _ _ e
theorem ZcM {c : TT} {t u t2 : TS} {D' : Ends} {σ : St} {H : Hp} (I : St -> Hp -> Prop) (h : ∀ N : St -> Hp -> Prop, (∀ σ' H', I σ' H' -> N σ' H') -> tIfS c t u { D' with nx := N } σ H) (hI : ∀ σ' H', I σ' H' -> t2 D' σ' H') : tSeq (tIfS c t u) t2 D' σ H := h _ hI
section
variable {K : PySem.W.Frag} {ta ta' te tf tm : TE} {σ : St} {H : Hp} {Q : VK} {p : Addr} {ls xs : List Str} {i j : Nat} {x y : Int}
theorem ZeD (hp : H p = some (.lst (ls.map V.str))) (hs : ls.length + xs.length + ls.length <= 1000000) (ei : x = i) (ej : y = j)
  (ha : ∀ {H' : Hp} {R : VK}, R (.ref p) H' -> ta σ H' R) (he : ∀ {H' : Hp} {R : VK}, R (.int x) H' -> te σ H' R) (hf : ∀ {H' : Hp} {R : VK}, R (.int y) H' -> tf σ H' R)
  (hm : ∀ {H' : Hp} {R : VK}, Same H H' -> (∀ m H2, Same H' H2 -> H2 m = some (.lst (xs.map V.str)) -> R (.ref m) H2) -> tm σ H' R)
  (q : ∀ p' H', Same H H' -> H' p' = some (.lst ((ls.take i ++ xs ++ ls.drop j).map V.str)) -> Q (.ref p') H') :
  tOp rCat (tOp rCat (tSl (rSlL K) ta ZdQ (ZhL te)) tm) (tSl (rSlL K) ta (ZhL tf) ZdQ) σ H Q := by
 refine ha (he ⟨x, rfl, ZiD hp ei fun p1 H1 _ s1 e1 => hm s1 fun m H2 s2 e2 => Zdp (s2 _ _ e1) e2 (by rw [List.length_take]; lia) fun p3 H3 _ s3 e3 => ha (hf ⟨y, rfl, ?_⟩)⟩)
 show rSlL K (.ref p) (some y) none H3 (fun y H2 => rCat (.ref p3) y H2 Q)
 exact Zek (((s1.trans s2).trans s3) _ _ hp) ej fun p4 H4 _ s4 e4 => Zdp (s4 _ _ e3) e4 (by rw [List.length_append, List.length_take, List.length_drop]; lia) fun p5 H5 _ s5 e5 => q p5 H5 ((((s1.trans s2).trans s3).trans s4).trans s5) e5
theorem ZgI (hp : H p = some (.lst (ls.map V.str))) (hs : ls.length + ls.length <= 1000000) (ei : x = i) (ej : y = j)
  (ha : ∀ {H' : Hp} {R : VK}, R (.ref p) H' -> ta σ H' R) (he : ∀ {H' : Hp} {R : VK}, R (.int x) H' -> te σ H' R) (hf : ∀ {H' : Hp} {R : VK}, R (.int y) H' -> tf σ H' R)
  (q : ∀ p' H', Same H H' -> H' p' = some (.lst ((ls.take i ++ ls.drop j).map V.str)) -> Q (.ref p') H') :
  tOp rCat (tSl (rSlL K) ta ZdQ (ZhL te)) (tSl (rSlL K) ta (ZhL tf) ZdQ) σ H Q := by
 refine ha (he ⟨x, rfl, ZiD hp ei fun p1 H1 _ s1 e1 => ha (hf ⟨y, rfl, ?_⟩)⟩)
 show rSlL K (.ref p) (some y) none H1 (fun y H2 => rCat (.ref p1) y H2 Q)
 exact Zek (s1 _ _ hp) ej fun p4 H4 _ s4 e4 => Zdp (s4 _ _ e1) e4 (by rw [List.length_take, List.length_drop]; lia) fun p5 H5 _ s5 e5 => q p5 H5 ((s1.trans s4).trans s5) e5
theorem Zfx {z : Str} (h : ∀ {R : VK}, R (.str z) H -> te σ H R) (q : ∀ m H2, Same H H2 -> H2 m = some (.lst ([z].map V.str)) -> Q (.ref m) H2) : tLst (Zb6 te tNil) σ H Q :=
 h ⟨by show 1 <= _; rw [PySem.sizeLine_eq]; decide, fun p hp => q p _ (Same.new hp) Zae⟩
theorem Zfy (h : ∀ {R : VK}, (∀ m H2, Same H H2 -> H2 m = some (.lst (ls.map V.str)) -> R (.ref m) H2) -> te σ H R) (hz : (ls.map (·.length)).sum + ls.length <= 1000000) (q : ∀ H', Same H H' -> Q (.str (Str.join ⟨#[32]⟩ ls)) H') : tBM K "str" (Zkn K) (tC (.str (Str.ofString " "))) (Zb6 te tNil) σ H Q :=
 ⟨rfl, h fun m H2 s2 e2 => by
  have := ZcN (K := K) (z := ⟨#[32]⟩) (SqL.of e2) (by decide) (by lia) (q H2 s2)
  rw [show (Str.ofString " ") = (⟨#[32]⟩ : Str) from by decide]
  exact this⟩
theorem ZeB {t u : TS} {D : Ends} {pk : Addr} {p0 c : Int} {r : List V} (hv : σ[1]? = some (some (.ref pk))) (hpk : H pk = some (.lst (.int p0 :: r))) (h1 : p0 = c -> t D σ H) (h2 : ¬ p0 = c -> u D σ H) : tIfS (ZgF (tOp rEq (tOp (rIxA K) (tVar 1) (tC (V.int 0))) (tC (V.int c)))) t u D σ H := by
 refine ⟨_, hv, Zak hpk (v := .int p0) (Zar (n := 0) rfl rfl) ?_⟩
 refine rd_c ?_
 refine ZiK ⟨_, rfl, ?_⟩
 dsimp only
 by_cases e : p0 = c
 ·rw [if_pos (by simpa using e)]; exact h1 e
 ·rw [if_neg (by simpa using e)]; exact h2 e
end
theorem ZgM {m n : Nat} {x y : Str} (h : Lin m x) (k : Lin n y) : Lin (m + n) (x ++ y) := ⟨Zcq h.1 k.1, by rw [ZaU]; exact Nat.add_le_add h.2.1 k.2.1, by rw [Zbc]; exact fun z => (List.mem_append.mp z).elim h.2.2 k.2.2⟩
theorem ZiB {z : Str} : ∀ m : Nat, (List.replicate m [V.str z]).flatten = (List.replicate m z).map V.str
  | 0 => rfl
  | m + 1 => by
    rw [List.replicate_succ, List.flatten_cons, ZiB m, List.replicate_succ]
    rfl
theorem ZiG {H : Hp} {l : Addr} {k : Int} {z : Str} {m : Nat} {Q : VK} (h : H l = some (.lst ([z].map V.str))) (e : k = m) (hm : m <= 1000) (q : ∀ p H', Same H H' -> H' p = some (.lst ((List.replicate m z).map V.str)) -> Q (.ref p) H') : rRep (.ref l) (.int k) H Q := by
 subst e
 refine ⟨l, m, _, rfl, rfl, h, by lia, by lia, ?_, fun p hp => q p _ (Same.new hp) ?_⟩
 ·rw [PySem.sizeLine_eq]
  show 1 * m <= _
  lia
 ·rw [Zae]
  show some (HO.lst (List.replicate m [V.str z]).flatten) = _
  rw [ZiB]
theorem Zhi {y : Str} (h : y = ⟨#[10]⟩) (k : Bool) : repS y (if k then 1 else 0) = Str.empty \/ repS y (if k then 1 else 0) = ⟨#[10]⟩ := by
 subst h
 cases k
 ·exact .inl rfl
 ·exact .inr rfl
theorem TB.feeds {L F M : Nat} {t : Str} (h : TB L F M t) {a b : Str} (ha : a = Str.empty \/ a = ⟨#[10]⟩) (hb : b = Str.empty \/ b = ⟨#[10]⟩) : TB (L + 2) (F + 2) M (a ++ t ++ b) := by
 have one : ∀ {a : Str}, a = Str.empty \/ a = ⟨#[10]⟩ -> Zbl a /\ a.length <= 1 /\ (cs a = [] \/ cs a = [10]) := fun z => by
  rcases z with rfl | rfl
  ·exact ⟨asc_mem.mpr fun c hc => (by cases hc), by decide, .inl rfl⟩
  ·exact ⟨asc_mem.mpr fun c hc => (by rw [List.mem_singleton.mp hc]; decide), by decide, .inr rfl⟩
 obtain ⟨a1, a2, a3⟩ := one ha
 obtain ⟨b1, b2, b3⟩ := one hb
 have n0 : ∀ {M}, LnW M ([] : List Nat) := fun u v w e n => by
  have := congrArg List.length e
  simp at this
  lia
 refine ⟨Zcq (Zcq a1 h.asc) b1, by rw [ZaU, ZaU]; have := h.len; lia, ?_, ?_⟩
 ·rw [Zbc, Zbc, List.count_append, List.count_append]
  have := h.fd
  have := List.count_le_length (a := 10) (l := cs a)
  have := List.count_le_length (a := 10) (l := cs b)
  rw [ZaO] at *
  lia
 ·rw [Zbc, Zbc]
  have l1 : LnW M (cs a ++ cs t) := by
   rcases a3 with e | e
   ·rw [e]; exact h.ln
   ·rw [e]; exact LnW.sep n0 h.ln
  rcases b3 with e | e
  ·rw [e, List.append_nil]; exact l1
  ·rw [e]; exact LnW.sep l1 n0
end L2
end
section
namespace L2
open PySem PySem.Spec PyProof.Rows PySem.Builtin PySem.Builtin.Str PySem.NumText
theorem Zg7 (l : List Nat) (c : Nat) : digitsVal (l ++ [c]) = digitsVal l * 10 + (c - 48) := by
 unfold digitsVal
 rw [List.foldl_append]
 rfl
theorem ZgC {l : List Nat} {c : Nat} (h : AllDigits (l ++ [c])) : AllDigits l /\ 48 <= c /\ c <= 57 := ⟨fun x hx => h x (List.mem_append_left _ hx), h c (List.mem_append_right _ List.mem_cons_self)⟩
theorem Zk3 : ∀ (k : Nat) (l : List Nat), l.length = k -> AllDigits l -> digitsVal l < 10 ^ k := by
  intro k
  induction k with
  | zero =>
    intro l hl _
    rw [List.eq_nil_of_length_eq_zero hl]
    decide
  | succ k ih =>
    intro l hl h
    have hne : l ≠ [] := fun e => by rw [e] at hl; cases hl
    obtain ⟨a, c, rfl⟩ : ∃ a c, l = a ++ [c] := ⟨_, _, (List.dropLast_concat_getLast hne).symm⟩
    obtain ⟨ha, hc⟩ := ZgC h
    have := ih a (by simpa using hl) ha
    rw [Zg7, Nat.pow_succ]
    lia
theorem Zgr : ∀ (k : Nat) (l : List Nat), l.length = k -> AllDigits l -> l ≠ [] -> (l.head? ≠ some 48 \/ l = [48]) -> figs (digitsVal l) = l := by
  intro k
  induction k with
  | zero => intro l hl _ hne _; exact absurd (List.eq_nil_of_length_eq_zero hl) hne
  | succ k ih =>
    intro l hl h hne hh
    obtain ⟨a, c, rfl⟩ : ∃ a c, l = a ++ [c] := ⟨_, _, (List.dropLast_concat_getLast hne).symm⟩
    obtain ⟨ha, hc⟩ := ZgC h
    rw [Zg7]
    by_cases e : a = []
    · subst e
      rw [show digitsVal [] * 10 + (c - 48) = c - 48 by show 0 * 10 + _ = _; lia, ZdL _ (by lia)]
      show [48 + (c - 48)] = [c]
      rw [Nat.add_sub_cancel' hc.1]
    · have hd : a.head? ≠ some 48 := by
        rcases hh with hh | hh
        · cases a with
          | nil => exact absurd rfl e
          | cons x r => exact hh
        · have h3 : a.length + [c].length = [48].length := by rw [<- List.length_append, hh]
          simp only [List.length_cons, List.length_nil] at h3
          have := List.length_pos_iff.mpr e
          lia
      have q := ih a (by simpa using hl) ha e (.inl hd)
      have pos : 0 < digitsVal a := by
        rcases Nat.eq_zero_or_pos (digitsVal a) with z | z
        · rw [z] at q
          exact absurd (show a.head? = some 48 by rw [<- q]; decide) hd
        · exact z
      rw [ZfO (by lia), show (digitsVal a * 10 + (c - 48)) / 10 = digitsVal a by lia, show (digitsVal a * 10 + (c - 48)) % 10 = c - 48 by lia, q, ZdL _ (by lia), Nat.add_sub_cancel' hc.1]
theorem ZhI {z : Str} {n : Int} (h : ZaM 60 z = some n) : numS n = z /\ ZbC n := by
  unfold ZaM at h
  split at h
  · next hc =>
    obtain ⟨⟨h1, h60⟩, h2⟩ := hc
    have hd := allFig.mp h2
    have hl := ZaO z
    split at h
    · cases h
    · next hz =>
      unfold figT at h1 h60 hd hz
      split at h1
      · next e =>
        rw [if_pos e] at h60 hd hz
        cases ez : cs z with
        | nil => rw [ez] at e; cases e
        | cons c r =>
          rw [ez] at e h1 h60 hd hl hz
          cases e
          have hr : List.drop 1 (45 :: r) = r := rfl
          rw [hr] at h1 h60 hd hz
          simp only [List.length_cons] at hl
          have hne : r ≠ [] := fun z => by rw [z] at h1; exact absurd h1 (by decide)
          rw [intText_neg ez hd hne (by lia)] at h
          have h := Option.some.inj h
          have hh : r.head? ≠ some 48 := fun q => hz ⟨q, fun w => by cases w⟩
          have fb := Zgr _ r rfl hd hne (.inl hh)
          have pos : 0 < digitsVal r := by
            rcases Nat.eq_zero_or_pos (digitsVal r) with z | z
            · rw [z] at fb
              exact absurd (show r.head? = some 48 by rw [<- fb]; decide) hh
            · exact z
          have lt := Zk3 _ r rfl hd
          have le : (10 : Nat) ^ r.length <= 10 ^ 60 := Nat.pow_le_pow_right (by decide) h60
          refine ⟨ZdM ?_, ?_⟩
          · rcases ZcH n with ⟨m, e1, e2⟩ | ⟨m, hm, e1, e2⟩
            · lia
            · have : m = digitsVal r := by lia
              rw [e2, this, fb, ez]
          · unfold ZbC
            have : n.natAbs = digitsVal r := by lia
            rw [this]
            exact Nat.lt_of_lt_of_le lt le
      · next e =>
        rw [if_neg e] at h60 hd hz
        have hne : cs z ≠ [] := fun z => by rw [z] at h1; exact absurd h1 (by decide)
        rw [intText_digits hd hne (by lia)] at h
        have h := Option.some.inj h
        have hh : (cs z).head? ≠ some 48 \/ cs z = [48] := by
          by_cases q : (cs z).head? = some 48
          · by_cases w : cs z = [48]
            · exact .inr w
            · exact absurd ⟨q, w⟩ hz
          · exact .inl q
        have h : ((digitsVal (cs z) : Nat) : Int) = n := h
        have fb := Zgr _ (cs z) rfl hd hne hh
        have lt := Zk3 _ (cs z) rfl hd
        have le : (10 : Nat) ^ (cs z).length <= 10 ^ 60 := Nat.pow_le_pow_right (by decide) h60
        refine ⟨ZdM ?_, ?_⟩
        · rcases ZcH n with ⟨m, e1, e2⟩ | ⟨m, hm, e1, e2⟩
          · have : m = digitsVal (cs z) := by lia
            rw [e2, this, fb]
          · lia
        · unfold ZbC
          have : n.natAbs = digitsVal (cs z) := by lia
          rw [this]
          exact Nat.lt_of_lt_of_le lt le
  · cases h
theorem Zi7 : ∀ {ws : List Str} {ns : List Int}, ws.mapM (ZaM 60) = some ns -> ns.map numS = ws /\ ∀ n ∈ ns, ZbC n := by
  intro ws ns h
  obtain ⟨hl, hi⟩ := Zc6 h
  have key : ∀ (i : Nat) w, ws[i]? = some w -> ∃ n, ns[i]? = some n /\ numS n = w /\ ZbC n := fun i w e => by
    obtain ⟨n, e1, e2⟩ := hi i w e
    exact ⟨n, e1, ZhI e2⟩
  refine ⟨List.ext_getElem? fun i => ?_, fun n hn => ?_⟩
  · rw [List.getElem?_map]
    cases e : ws[i]? with
    | none =>
      rw [List.getElem?_eq_none (by rw [<- hl]; exact List.getElem?_eq_none_iff.mp e)]
      rfl
    | some w =>
      obtain ⟨n, e1, e2, _⟩ := key i w e
      rw [e1, <- e2]
      rfl
  · obtain ⟨i, hi'⟩ := List.mem_iff_getElem?.mp hn
    have lt := (List.getElem?_eq_some_iff.mp hi').1
    obtain ⟨n', e1, _, s⟩ := key i _ (List.getElem?_eq_getElem (show i < ws.length by lia))
    rw [hi'] at e1
    cases e1
    exact s
theorem Zjf {acc acc' : List PDef} {line : Str} (h : Zb1 acc line = some acc') : (∃ a b, line = ZfL (a, b, []) /\ ZbC a /\ ZbC b /\ acc' = acc ++ [(a, b, [])]) \/ (acc ≠ [] /\ ∃ r, line = rowT r.1 (Za2 r) /\ RowR r /\ acc' = Zee acc r) := by
  unfold Zb1 at h
  have jl := StrLaws.join_split line blank
  cases es : Txt.split line blank with
  | nil => exact absurd es (ZbN _ _)
  | cons w ws =>
    rw [es] at h jl
    have h : (match ws.mapM (ZaM 60) with | none => none | some ns => Zdk acc w ns) = some acc' := h
    cases em : ws.mapM (ZaM 60) with
    | none => rw [em] at h; cases h
    | some ns =>
      rw [em] at h
      have h : Zdk acc w ns = some acc' := h
      obtain ⟨en, sm⟩ := Zi7 em
      have el : line = rowT w ns := by
        unfold rowT
        rw [en]
        exact jl.symm
      unfold Zdk at h
      split at h
      · next ew =>
        subst ew
        rcases ns with _ | ⟨a, _ | ⟨b, _ | ⟨c, r⟩⟩⟩
        · cases h
        · cases h
        · cases h
          exact .inl ⟨a, b, el, sm a List.mem_cons_self, sm b (List.mem_cons_of_mem _ List.mem_cons_self), rfl⟩
        · cases h
      · split at h
        · cases h
        · next ne =>
          obtain ⟨r, er, e2⟩ := Option.map_eq_some_iff.mp h
          obtain ⟨r1, r2⟩ := rowP_w er
          refine .inr ⟨ne, r, by rw [r1, r2]; exact el, ⟨by rw [r1, r2]; exact er, fun n hn => sm n (by rw [r2] at hn; exact hn)⟩, e2.symm⟩
theorem Zgq : ∀ {lines : List Str} {acc ds : List PDef}, lines.foldlM Zb1 acc = some ds -> (∀ d ∈ acc, DefR d) -> (ds.map defL).flatten = (acc.map defL).flatten ++ lines /\ ∀ d ∈ ds, DefR d
  | [], acc, ds, h, ha => by
    cases h
    exact ⟨(List.append_nil _).symm, ha⟩
  | line :: lines, acc, ds, h, ha => by
    rw [List.foldlM_cons] at h
    cases el : Zb1 acc line with
    | none => rw [el] at h; cases h
    | some acc' =>
      rw [el] at h
      have h : lines.foldlM Zb1 acc' = some ds := h
      have key : (acc'.map defL).flatten = (acc.map defL).flatten ++ [line] /\ ∀ d ∈ acc', DefR d := by
        rcases Zjf el with ⟨a, b, e1, sa, sb, rfl⟩ | ⟨ne, r, e1, rr, rfl⟩
        · refine ⟨by rw [List.map_append, List.flatten_append, e1]; rfl, fun d hd => ?_⟩
          rcases List.mem_append.mp hd with hd | hd
          · exact ha d hd
          · rw [List.mem_singleton.mp hd]
            exact ⟨sa, sb, fun r hr => by cases hr⟩
        · obtain ⟨acc0, d, rfl⟩ : ∃ a d, acc = a ++ [d] := ⟨_, _, (List.dropLast_concat_getLast ne).symm⟩
          rw [ZcW]
          have hd := ha d (List.mem_append_right _ List.mem_cons_self)
          refine ⟨?_, fun d' hd' => ?_⟩
          · simp only [List.map_append, List.flatten_append, List.map_cons, List.map_nil, List.flatten_cons, List.flatten_nil, List.append_nil, List.append_assoc, e1]
            congr 1
            show ZfL d :: _ = ZfL d :: _
            simp [List.map_append]
          · rcases List.mem_append.mp hd' with hd' | hd'
            · exact ha d' (List.mem_append_left _ hd')
            · rw [List.mem_singleton.mp hd']
              refine ⟨hd.takes, hd.boxes, fun r' hr' => ?_⟩
              rcases List.mem_append.mp hr' with hr' | hr'
              · exact hd.rows r' hr'
              · rw [List.mem_singleton.mp hr']; exact rr
      obtain ⟨k1, k2⟩ := Zgq h key.2
      exact ⟨by rw [k1, key.1, List.append_assoc]; rfl, k2⟩
theorem Zga {z : Str} {ds : List PDef} (h : Zc3 z = some ds) : Zgd ds = z /\ (ds.map defL).flatten = Txt.split z feed /\ ∀ d ∈ ds, DefR d := by
 obtain ⟨k1, k2⟩ := Zgq h (fun d hd => by cases hd)
 have k1 : (ds.map defL).flatten = Txt.split z feed := k1
 exact ⟨by rw [ZcF, k1]; exact StrLaws.join_split z feed, k1, k2⟩
end L2
end
section
open PySem L2
local macro_rules | `(tactic| walk_at "rd1") => `(tactic| (first | ((with_reducible refine' ZlR ?e ?_); (case e => exact rfl)) | ((with_reducible refine' ZlQ ?e ?f ?_); (case e => exact rfl); (case f => exact rfl)) | ((with_reducible refine' rd_opV ?e ?_); (case e => exact rfl)) | with_reducible refine rd_opC ?_ | ((with_reducible refine' ZiL ?e ?_); (case e => exact rfl)) | with_reducible refine ZiM ?_ | ((with_reducible refine' Zkh ?e ?_); (case e => exact rfl)) | with_reducible refine Zki ?_ | ((with_reducible refine ZlK ?_); intro D1) | ((with_reducible refine ZlJ ?_); intro D1) | with_reducible refine rd_ifT ?_ | ((with_reducible refine' ZlM ?e ?_); (case e => exact rfl)) | (with_reducible first | refine ZlN ?_ | refine Zl5 ?_ | refine ZlV ?_ | refine Zl4 ?_ | refine ZlU ?_) | ((with_reducible refine' rd_var ?e ?_); (case e => exact rfl)) | (with_reducible first | refine rd_c ?_ | refine rd_op ?_ | refine rd_un ?_) | ((with_reducible refine ZlI ?_); intro D1) | with_reducible refine Zhl ?_ | ((with_reducible refine ZiJ ?_); intro σ1) | (with_reducible first | refine Zla ?_ | refine Zl6 ?_ | refine Zfw ?_ | refine rd_if ?_ | refine ZlF ?_ | refine rd_tb ?_ | refine rd_and ?_ | refine rd_or ?_ | refine rd_not ?_ | refine ZlE ?_ | refine Zmb ?_ | refine rd_orV ?_ | refine ZlS ?_ | refine Zle ?_ | refine Zkj ?_ | refine rd_nil ?_ | refine Zl8 ?_ | refine rd_cb ?_) | ((with_reducible refine Zkl ?_); intro Q1) | (with_reducible first | refine ZfC ?_ | refine rd_U ?_ | refine ZiK ?_ | refine Zlc ?_ | refine Zlf ?_ | refine Zlb ?_ | refine rd_eqB ?_ | refine rd_neB ?_ | refine Zci ?_ | refine rd_int ?_ | refine rd_tup ?_ | refine rd_lst ?_ | refine Zl2 ?_ | refine Zj9 ?_ | refine ZiH ?_ | refine ZlP ?_ | refine rd_bm ?_ | refine rd_bm0 ?_ | refine Zl9 ?_ | refine ZlX ?_ | refine Zke ?_ | refine ZlZ ?_ | refine Zkf ?_ | refine Zl3 ?_ | refine rd_for ?_ | refine rd_abs ?_ | refine rd_max ?_ | refine rd_min ?_ | refine Zl0 ?_ | refine rd_dput ?_ | refine rd_dget2 ?_ | refine Zl7 ?_ | refine rd_fld ?_ | refine rd_sfld ?_ | refine rd_meth ?_ | refine rd_make ?_ | refine rd_isN ?_ | refine ZlT ?_ | refine rd_izip ?_ | refine rd_izipT ?_ | refine rd_pcons ?_ | refine rd_pnil ?_ | refine Zkg ?_ | refine Zkk ?_ | refine ZiE ?_ | refine Zka ?_ | refine ZlD ?_ | refine ZmC ?_ | refine iteNF ?_ | refine iteF ?_ | refine iteT ?_)))
local macro_rules | `(tactic| walk_at "rd") => `(tactic| (repeat walk_at "rd1"))
local macro_rules | `(tactic| walk_at "mk") => `(tactic| refine ⟨ZdS rfl, ?_⟩)
section
namespace My
open PySem L2
noncomputable def top (i : Nat) : Stmt := PySem.Challenge.pw_midlanes_k15_texts_that_are_none.main.body.getD i (.Pass ⟨0, 0, 0, 0⟩)
noncomputable abbrev Zd8 : Stmt := top 9
noncomputable abbrev ZbD : Stmt := top 10
noncomputable abbrev ZbO : Stmt := top 11
noncomputable abbrev ZbE : Stmt := top 12
noncomputable abbrev Zbt : Stmt := top 13
noncomputable abbrev ZbR : Stmt := top 15
noncomputable abbrev ZbK : Stmt := top 16
noncomputable abbrev Zbp : Stmt := top 17
noncomputable abbrev Zbg : Stmt := top 18
noncomputable abbrev ZbI : Stmt := top 19
noncomputable abbrev ZbQ : Stmt := top 20
noncomputable abbrev ZbG : Stmt := top 21
noncomputable abbrev Zbv : Stmt := top 22
noncomputable abbrev Zbf : Stmt := top 23
noncomputable abbrev Za5 : Stmt := top 24
noncomputable abbrev ZbF : Stmt := top 25
noncomputable abbrev Zbe : Stmt := top 26
noncomputable abbrev Za6 : Stmt := top 27
noncomputable abbrev ZbP : Stmt := top 28
noncomputable abbrev ZaZ : Stmt := top 29
noncomputable abbrev ZaR : Stmt := top 30
noncomputable abbrev ZaQ : Stmt := top 31
noncomputable abbrev ZaY : Stmt := top 32
noncomputable abbrev Zbo : Stmt := top 33
noncomputable abbrev Zbu : Stmt := top 34
noncomputable abbrev ZbJ : Stmt := top 35
noncomputable abbrev ZaP : Stmt := top 36
noncomputable abbrev ZbH : Stmt := top 37
noncomputable abbrev Zbq : Stmt := top 38
noncomputable abbrev Zfu : Stmt := top 39
structure Blt (mg : Str -> Option Value) : Prop where
 b_ValueError : mg "ValueError" = none
 b_abs : mg "abs" = none
 b_all : mg "all" = none
 b_bool : mg "bool" = none
 b_int : mg "int" = none
 b_isinstance : mg "isinstance" = none
 b_len : mg "len" = none
 b_list : mg "list" = none
 b_min : mg "min" = none
 b_range : mg "range" = none
 b_str : mg "str" = none
 b_tuple : mg "tuple" = none
structure Glb (K : PySem.W.Frag) (w : World) (mg : Str -> Option Value) : Prop where
 c_FIGURES : ∃ t, mg "FIGURES" = some (.str "0123456789" t)
 c_MOST_FIGURES : ∃ t, mg "MOST_FIGURES" = some (.int 60 t)
 c_PARTS : IsCD K w mg "PARTS" partsT
structure ExH (K : PySem.W.Frag) (mg : Str -> Option Value) (Zaj ZaA Zav ZaX : Addr) : Prop where
 m_NoText : mg "NoText" = some (.ref Zaj)
 exc : ExcC K Zaj
 m_LaneError : mg "LaneError" = some (.ref ZaA)
 m_NotFormed : mg "NotFormed" = some (.ref Zav)
 m_Faulty : mg "Faulty" = some (.ref ZaX)
 x_LaneError : PySem.W.exmOne K (.ref Zaj) (.ref ZaA) = some true
 k : ExcK K Zaj
 kV : PySem.W.kitCls K (.ref Zaj) (.type "ValueError") = some true
 kN : PySem.W.kitCls K (.ref Zaj) (.ref Zav) = some false
 kF : PySem.W.kitCls K (.ref Zaj) (.ref ZaX) = some false
 nN : (Value.ref Zaj == Value.ref Zav) = false
 nF : (Value.ref Zaj == Value.ref ZaX) = false
theorem ZfY : bootBuiltins "ValueError" = some (.type "ValueError") := by decide +kernel
section
variable {P : Program} {w : World} {K : PySem.W.Frag} {mg : Str -> Option Value} {base : Heap}
noncomputable def Ze5 : Nat -> D -> Prop
 | _, .int _ => True
 | _ + 1, .tup ds => ds.length <= 1000000 /\ ∀ d ∈ ds, ∃ n, d = .int n
 | _, _ => False
structure PgD (ds : List PDef) : Prop where
 len : ds.length <= 1000000
 rows : ∀ d ∈ ds, d.2.2.length <= 1000000
 part : ∀ d ∈ ds, ∀ r ∈ d.2.2, r.2.length <= 1000000 /\ ∀ p ∈ r.2, Ze5 1 p
inductive Pr_number (x : V) (H : Hp) (Q : VK) : Prop
 | mk (b l) (_ : x = .ref b) (_ : BagAt H b l) (_ : ∀ r H', r.natAbs < 10 ^ 60 -> BagAt H' b l -> BSame b H H' -> Q (.int r) H') : Pr_number x H Q
noncomputable def ZcD : Sp := sp1 (Pr_number)
noncomputable def ZjV (boxes many ns : Int) (c : Str) (n : Int) : Prop := (c = "p" -> 0 <= n /\ n < boxes) /\ (c = "t" -> 0 <= n /\ n < many) /\ (c = "f" -> 0 <= n /\ n < ns) /\ (c = "c" -> -99 <= n /\ n <= 99) /\ n.natAbs < 10 ^ 60
noncomputable def Zh3 (sg : List (Int × Int)) (boxes many : Int) (ps : List D) (c : Str) (d : D) : Prop :=
 (c ≠ "q" /\ ∃ n, d = .int n /\ ZjV boxes many sg.length c n) \/
 (c = "q" /\ ∃ (args : List Int) (f : Nat) (tk : Int × Int), ps[1]? = some (.int f) /\ sg[f]? = some tk /\ d = .tup (args.map D.int) /\ (args.length : Int) = tk.1 /\ ∀ q ∈ args, 0 <= q /\ q < boxes)
structure RowG (sg : List (Int × Int)) (boxes many : Int) (w ls : Str) (ps : List D) : Prop where
 tab : (w, ls) ∈ lettersL
 len : ps.length = ls.cps.size
 parts : ∀ (i c : Nat), ls.cps[i]? = some c -> ∃ d, ps[i]? = some d /\ Zh3 sg boxes many ps ⟨#[c]⟩ d
noncomputable def ZjT (sg : List (Int × Int)) (boxes many : Int) (r : Str × List D) : Prop := ∃ ls, RowG sg boxes many r.1 ls r.2
structure RowsOk (sg : List (Int × Int)) (boxes many : Int) (rs : List (Str × List D)) : Prop where
 len : (rs.length : Int) = many
 all : ∀ r ∈ rs, ZjT sg boxes many r
 last : ∃ r, rs[rs.length - 1]? = some r /\ (r.1 = "back" \/ r.1 = "jump")
structure ProgOk (sg : List (Int × Int)) (ds : List PDef) : Prop where
 sgs : SgOk sg
 heads : ds.map (fun d => (d.1, d.2.1)) = sg
 rows : ∀ d ∈ ds, ∃ many, 1 <= many /\ many <= 30 /\ RowsOk sg d.2.1 many d.2.2
theorem sc__law_draw : FnScope ["bag", "many", "found"] ["bag", "many"] (Zag ZbK) := ⟨rfl, rfl, rfl, by decide +kernel, rfl, by decide +kernel, by decide +kernel⟩
theorem ZgZ (B : Blt mg) (T__law_draw : TopFn K mg "_law_draw" ZbK ["bag", "many"]) : Callee P w K mg base "_law_draw" 1 ["bag", "many"] Zcb := by
 refine T__law_draw.ok2 sc__law_draw fun f cdv A outer s H v1 v2 Q E hr h => ?_
 have nd := sc__law_draw.nd
 obtain ⟨b, l, n, rfl, rfl, ⟨hn, hn2⟩, Bg, k⟩ := h
 obtain ⟨xs, i, m, st, c, hb, hl, hi, ⟨hm0, hm1⟩, ⟨hs0, hs1⟩, hxs, hlen⟩ := Bg.ex
 have nbl : l ≠ b := Zmw hl hb (by
  intro z
  injection z with z
  cases xs <;> simp [bagL] at z)
 have hl2 : ∀ o, upd H b o l = some (.lst (xs.map V.int)) := fun o => by rw [Zaw nbl]; exact hl
 refine' Zbd [some (.ref b), some (.int n), none] rfl ?hb ?hg
 case' hb => refine' Zac ?bab ?bac
 case' bab => refine' ZaL ?bad ?bae ?baf
 case' bad => refine' PW.pt ?bag
 case' bag => refine' ZdD ?bah ?bai
 case bah => exact (Zal Zba (Zax (k_ix (K := K) rfl) (pv 0) Zad (fun _ _ => rfl)) Zad (Zao _))
 case' bai => refine' ZcP ?baj
 case' baj => refine' Zal ?bak ?bal ?bam ?ban
 case bak => exact ZkD
 case bal => exact (Zax (k_ix (K := K) rfl) (pv 0) Zad (fun _ _ => rfl))
 case bam => exact (Zap (Zb9 (K := K) rfl) (by rfl) B.b_len Zbw (Za1 (Zax (k_ix (K := K) rfl) (pv 0) Zad (fun _ _ => rfl)) Zab))
 case ban => exact (Zao _)
 case' bae => refine' Zac ?bao ?bap
 case' bao => refine' Zc4 ?baq ?bar
 case' baq => refine' Zax ?bas ?bat ?bau ?bav
 case bas => exact (k_ix (K := K) rfl)
 case bat => exact (Zax (k_ix (K := K) rfl) (pv 0) Zad (fun _ _ => rfl))
 case bau => exact (Zax (k_ix (K := K) rfl) (pv 0) Zad (fun _ _ => rfl))
 case bav => exact (fun _ _ => rfl)
 case bar => exact (ZdE (pv 0) Zad Zch)
 case bap => exact (Zaf (Zc4 (Zam Za7 (Zax (k_ix (K := K) rfl) (pv 0) Zad (fun _ _ => rfl)) Zad) (ZdE (pv 0) Zad Zch)))
 case' baf => refine' Zaf ?baw
 case' baw => refine' ZaL ?bax ?bay ?baz
 case bax => exact (Zal Zba (Zax (k_ix (K := K) rfl) (pv 0) Zad (fun _ _ => rfl)) Zad (Zao _))
 case' bay => refine' Zac ?bba ?bbb
 case bba => exact (Zc4 (Zam Za7 (Zax (k_ix (K := K) rfl) (pv 0) Zad (fun _ _ => rfl)) Zad) (ZdE (pv 0) Zad Zch))
 case' bbb => refine' Zac ?bbc ?bbd
 case' bbc => refine' Zc4 ?bbe ?bbf
 case' bbe => refine' Zam ?bbg ?bbh ?bbi
 case bbg => exact ZbM
 case' bbh => refine' Zam ?bbj ?bbk ?bbl
 case bbj => exact Za7
 case' bbk => refine' Zam ?bbm ?bbn ?bbo
 case bbm => exact Za7
 case' bbn => refine' Zam ?bbp ?bbq ?bbr
 case bbp => exact Za7
 case bbq => exact (Zam Zhp (Zax (k_ix (K := K) rfl) (pv 0) Zad (fun _ _ => rfl)) Zad)
 case bbr => exact (Zam Zi3 Zad (Zax (k_ix (K := K) rfl) (pv 0) Zad (fun _ _ => rfl)))
 case bbo => exact (Zam Zi3 Zad (Zax (k_ix (K := K) rfl) (pv 0) Zad (fun _ _ => rfl)))
 case bbl => exact Zad
 case bbi => exact Zad
 case bbf => exact (ZdE (pv 0) Zad Zch)
 case bbd => exact (Zaf (Zas (Zam ZbM (Zam Zde (Zax (k_ix (K := K) rfl) (pv 0) Zad (fun _ _ => rfl)) Zad) (pv 1))))
 case baz => exact Zaq
 case' bac => refine' Zac ?bbs ?bbt
 case bbs => exact (Za0 (i := 2) nd rfl (Or.inl rfl) (Zam ZbM (Zax (k_ix (K := K) rfl) (pv 0) Zad (fun _ _ => rfl)) (pv 1)))
 case' bbt => refine' Zac ?bbu ?bbv
 case bbu => exact (Zc4 (Zam Zde (Zax (k_ix (K := K) rfl) (pv 0) Zad (fun _ _ => rfl)) (pv 1)) (ZdE (pv 0) Zad Zch))
 case bbv => exact (Zaf (Zas (pv 2)))
 have fin : ∀ (j : Nat) (m' : Int), j <= xs.length -> 0 <= m' -> m' <= 10 ^ 60 -> ∀ H1, BSame b H H1 -> H1 b = some (.lst (bagL l j m' st c)) -> H1 l = some (.lst (xs.map V.int)) ->
   Q (.int (m' % n)) (upd H1 b (.lst (bagL l j (m' / n) st c))) := by
  intro j m' hj h0 h1 H1 bs hb1 hl1
  have hd0 : 0 <= m' / n := Int.ediv_nonneg h0 (Int.le_of_lt hn)
  have hd1 : m' / n <= m' := Int.ediv_le_self _ h0
  refine k _ _ (Int.emod_nonneg _ (by lia)) (Int.emod_lt_of_pos _ hn) ⟨xs, j, m' / n, st, c, Zae, by rw [Zaw nbl]; exact hl1, hj, ⟨hd0, by lia⟩, ⟨hs0, hs1⟩, hxs, hlen⟩ (bs.trans BSame.wr)
 have tail : ∀ (j : Nat) (m' : Int) (σ2 : St), σ2 = [some (.ref b), some (.int n), none] -> j <= xs.length -> 0 <= m' -> m' <= 10 ^ 60 -> ∀ H1, BSame b H H1 -> H1 b = some (.lst (bagL l j m' st c)) -> H1 l = some (.lst (xs.map V.int)) ->
   tSeq (tAsg (tOp (rI (fun _ j => 0 < j) fun i j => .int (i % j)) (tOp (rIxA K) (tVar 0) (tC (.int 2))) (tVar 1)) (Zdl 2))
    (tSeq (tAsg (tOp (rI ZmY fun i j => .int (i / j)) (tOp (rIxA K) (tVar 0) (tC (.int 2))) (tVar 1)) (gSub (tVar 0) (tC (.int 2)) Zmd)) (tRet (tVar 2))) { nx := fun _ H' => Q .non H', rt := Q } σ2 H1 := by
  intro j m' σ2 e hj h0 h1 H1 bs hb1 hl1
  subst e
  walk_at "rd"
  refine Zak (v := .int m') hb1 rfl ?_
  walk_at "rd"
  refine rd_I hn ?_
  walk_at "rd"
  refine Zak (v := .int m') hb1 rfl ?_
  walk_at "rd"
  refine rd_I (Zdi hn (by lia)) ?_
  walk_at "rd"
  refine ZcL (k := 2) hb1 rfl ?_
  walk_at "rd"
  exact fin j m' hj h0 h1 H1 bs hb1 hl1
 walk_at "rd"
 refine Zak (v := .int m) hb rfl ?_
 walk_at "rd"
 refine ZaH (fun hm => ?_) (fun hm => ?_)
 ·walk_at "rd"
  refine Zak (v := .int i) hb rfl ?_
  walk_at "rd"
  refine Zak (v := .ref l) hb rfl ?_
  walk_at "rd"
  refine Zbk (SqL.of hl) ?_
  walk_at "rd"
  rw [List.length_map]
  refine ZaH (fun hi2 => ?_) (fun hi2 => ?_)
  ·walk_at "rd"
   refine Zak (v := .ref l) hb rfl ?_
   walk_at "rd"
   refine Zak (v := .int i) hb rfl ?_
   walk_at "rd"
   have hil : i < xs.length := by lia
   have hxi := hxs _ (List.getElem_mem hil)
   refine Zak (v := .int xs[i]) hl (Zar (n := i) rfl (by rw [List.getElem?_map, List.getElem?_eq_getElem hil]; rfl)) ?_
   walk_at "rd"
   refine ZcL (k := 2) hb rfl ?_
   walk_at "rd"
   refine Zak (v := .int i) Zae rfl ?_
   walk_at "rd"
   refine ZcL (k := 1) Zae rfl ?_
   exact tail (i + 1) xs[i] _ rfl (by lia) hxi.1 hxi.2 _ (BSame.wr.trans BSame.wr) Zae (by rw [Zaw nbl]; exact hl2 _)
  ·walk_at "rd"
   refine Zak (v := .int m) hb rfl ?_
   walk_at "rd"
   refine Zfh hm ?_
   walk_at "rd"
   refine Zak (v := .int c) hb rfl ?_
   walk_at "rd"
   refine ZcL (k := 4) hb rfl ?_
   walk_at "rd"
   refine Zak (v := .int st) Zae rfl ?_
   walk_at "rd"
   refine rd_I ⟨by decide, by decide, by lia⟩ ?_
   walk_at "rd"
   refine Zak (v := .int st) Zae rfl ?_
   walk_at "rd"
   refine rd_I (.inl ⟨by decide, by decide⟩) ?_
   walk_at "rd"
   refine Zak (v := .int (c + 1)) Zae rfl ?_
   walk_at "rd"
   refine rd_I (.inl ⟨by decide, by decide⟩) ?_
   walk_at "rd"
   refine rd_I (by decide) ?_
   walk_at "rd"
   refine ZcL (k := 3) Zae rfl ?_
   walk_at "rd"
   generalize hst : (st ^ (3 : Int).toNat + 48271 * st + 1013 * (c + 1) + 1) % 2147483647 = st'
   have h0 : 0 <= st' := by rw [<- hst]; exact Int.emod_nonneg _ (by decide)
   have h1 : st' < 2147483647 := by rw [<- hst]; exact Int.emod_lt_of_pos _ (by decide)
   refine Zak (v := .int st') Zae rfl ?_
   walk_at "rd"
   refine rd_I (Zdi (by decide) (by decide +kernel)) ?_
   walk_at "rd"
   refine rd_I hn ?_
   refine k _ _ (Int.emod_nonneg _ (by lia)) (Int.emod_lt_of_pos _ hn) ⟨xs, i, m, st', c + 1, Zae, by rw [Zaw nbl]; exact hl2 _, hi, ⟨hm0, hm1⟩, ⟨h0, h1⟩, hxs, hlen⟩ (BSame.wr.trans BSame.wr)
 ·walk_at "rd"
  refine Zak (v := .int m) hb rfl ?_
  walk_at "rd"
  refine ZdI hm ?_
  exact tail i m _ rfl hi hm0 hm1 H (BSame.refl _ _) hb hl
theorem sc__law_number : FnScope ["bag"] ["bag"] (Zag Zbp) := ⟨rfl, rfl, rfl, by decide +kernel, rfl, by decide +kernel, by decide +kernel⟩
theorem ZfW (T__law_number : TopFn K mg "_law_number" Zbp ["bag"]) (Zah : Callee P w K mg base "_law_draw" 1 ["bag", "many"] Zcb) : Callee P w K mg base "_law_number" 2 ["bag"] ZcD := by
 refine T__law_number.ok1 sc__law_number fun f cdv A outer s H v1 Q E hr h => ?_
 have nd := sc__law_number.nd
 obtain ⟨b, l, rfl, Bg, k⟩ := h
 refine' Zbd [some (.ref b)] rfl ?hb ?hg
 case' hb => refine' Zac ?bab ?bac
 case' bab => refine' ZaL ?bad ?bae ?baf
 case bad => exact (Zal Zba (ZaG Zah (hr.mono (by first | decide | lia)) (by rfl) (Zaa (pv 0) (Zai Zad Zab))) Zad (Zao _))
 case' bae => refine' Zaf ?bag
 case' bag => refine' Zas ?bah
 case' bah => refine' Zam ?bai ?baj ?bak
 case bai => exact ZeH
 case' baj => refine' Zam ?bal ?bam ?ban
 case bal => exact Zge
 case bam => exact (Zam ZeH (ZaG Zah (hr.mono (by first | decide | lia)) (by rfl) (Zaa (pv 0) (Zai Zad Zab))) Zad)
 case ban => exact Zad
 case bak => exact (ZaG Zah (hr.mono (by first | decide | lia)) (by rfl) (Zaa (pv 0) (ZaW (Zam Zhp Zad Zad) Zab)))
 case baf => exact Zaq
 case bac => exact (Zaf (Zas (Zam Zge (ZaG Zah (hr.mono (by first | decide | lia)) (by rfl) (Zaa (pv 0) (Zai Zad Zab))) Zad)))
 walk_at "rd"
 refine use2 ⟨b, l, 8, rfl, rfl, ⟨by decide, by decide⟩, Bg, fun r H1 h0 h1 B1 b1 => ?_⟩
 walk_at "rd"
 refine ZaH (fun _ => ?_) (fun _ => ?_)
 ·walk_at "rd"
  refine use2 ⟨b, l, 2, rfl, rfl, ⟨by decide, by decide⟩, B1, fun r2 H2 g0 g1 B2 b2 => ?_⟩
  walk_at "rd"
  refine rd_I (ZeU (by lia) (by decide +kernel)) ?_
  walk_at "rd"
  refine rd_I Zlr ?_
  walk_at "rd"
  refine use2 ⟨b, l, _, rfl, rfl, ⟨by decide +kernel, by decide +kernel⟩, B2, fun r3 H3 f0 f1 B3 b3 => ?_⟩
  rw [ten60] at f1
  refine rd_I (ZeU (by lia) (by lia)) ?_
  refine k _ _ ?_ B3 ((b1.trans b2).trans b3)
  rw [Int.natAbs_mul]
  have e1 : (r2 * 2 - 1).natAbs <= 1 := by lia
  have e2 : r3.natAbs < 10 ^ 60 := by lia
  exact Nat.lt_of_le_of_lt (Nat.le_trans (Nat.mul_le_mul_right _ e1) (Nat.le_of_eq (Nat.one_mul _))) e2
 ·walk_at "rd"
  refine use2 ⟨b, l, 9, rfl, rfl, ⟨by decide, by decide⟩, B1, fun r2 H2 g0 g1 B2 b2 => ?_⟩
  walk_at "rd"
  exact k _ _ (by lia) B2 (b1.trans b2)
theorem sc__law_bag : FnScope ["script", "stir", "cell"] ["script"] (Zag ZbR) := ⟨rfl, rfl, rfl, by decide +kernel, rfl, by decide +kernel, by decide +kernel⟩
theorem Zh1 (B : Blt mg) (T__law_bag : TopFn K mg "_law_bag" ZbR ["script"]) : Callee P w K mg base "_law_bag" 1 ["script"] (sp_bag K) := by
 refine T__law_bag.ok1 sc__law_bag fun f cdv A outer s H v1 Q E hr h => ?_
 have nd := sc__law_bag.nd
 obtain ⟨a, ns, rfl, hS, hlen, k⟩ := h
 refine' Zbd [some (.ref a), none, none] rfl ?hb ?hg
 case' hb => refine' Zac ?bab ?bac
 case bab => exact (Zcw (i := 1) nd rfl (Or.inl rfl) Zad)
 case' bac => refine' Zac ?bad ?bae
 case' bad => refine' Zb8 ?baf ?bag ?bah ?bai ?baj
 case baf => exact PassesOwn.never
 case bag => exact rfl
 case bah => exact (ZbB (K := K) rfl (Zat (k_sl (K := K) rfl) (pv 0) ZaC (ZaB Zad)))
 case bai => exact (ZaE (i := 2) nd rfl (Or.inl rfl))
 case' baj => refine' Zaf ?bak
 case' bak => refine' Za0 (i := 1) ?bal ?bam ?ban ?bao
 case bal => exact nd
 case bam => exact rfl
 case ban => exact (Or.inl rfl)
 case bao => exact (Zam ZbM (Zam Za7 (Zam Za7 (Zam Zi3 (pv 1) Zad) (Zam ZbM (pv 2) Zad)) Zad) Zad)
 case' bae => refine' Zaf ?bap
 case' bap => refine' Zas ?baq
 case' baq => refine' Za4 ?bar
 case' bar => refine' Zdd ?bas ?bat
 case' bas => refine' ZcR (LN := ["cell"]) (FN := []) (fr := []) ?bau ?bav ?baw ?bax ?bay ?baz
 case bau => exact rfl
 case bav => exact (ZdO (by rfl))
 case baw => exact (ZbB (K := K) rfl (Zat (k_sl (K := K) rfl) (pv 0) ZaC (ZaB Zad)))
 case' bax => intro cl C fp pins s H
 case bax => exact (ZaE (i := 0) (show ((["cell"] : List Str) ++ ([] : List Str)).Nodup by decide +kernel) rfl (Or.inl rfl))
 case' bay => intro cl C fp pins s H
 case bay => exact Zcc
 case' baz => intro cl C fp pins s H
 case baz => exact (Zam ZbM (Zap ZjN (by rfl) B.b_abs bt_abs (Zaa (pv 0) Zab)) (Zam Zhp Zad Zad))
 case bat => exact (Zai Zad (Zai Zad (Zaa (pv 1) (Zai Zad Zab))))
 walk_at "rd"
 refine ZdB hS fun p hp => ?_
 obtain ⟨ms, em, hm⟩ := ZjC ns none (some 63)
 rw [em]
 refine ZcZ (SqL.of Zae) ?_
 have s0 := Same.new (o := .lst (ms.map V.int)) hp
 generalize hH0 : upd H p (HO.lst (ms.map V.int)) = H0 at s0
 have hp0 : H0 p = some (.lst (ms.map V.int)) := by rw [<- hH0]; exact Zae
 refine Zdg (xs := ms.map V.int) (fun i σ H1 => Ex2 fun st c2 => An4 (σ = [some (.ref a), some (.int st), c2]) (H1 = H0) (0 <= st) (st < 2147483647)) ⟨11, none, rfl, rfl, by decide, by decide⟩ (fun i σ H1 _ z_ => by obtain ⟨_, _, _, e, _⟩ := z_; rw [e]; exact SqL.of hp0) ?_ ?_
 ·rintro i x σ H1 hx ⟨st, c2, rfl, rfl, h0, h1⟩
  obtain ⟨z, rfl, _⟩ := Zhz hx
  walk_at "rd"
  refine rd_I (.inr ⟨by decide, by decide⟩) ?_
  walk_at "rd"
  refine rd_I (by decide) ?_
  walk_at "rd"
  refine rd_I (by decide) ?_
  walk_at "rd"
  exact ⟨_, _, rfl, rfl, Int.emod_nonneg _ (by decide), Int.emod_lt_of_pos _ (by decide)⟩
 ·rintro σ H1 ⟨st, c2, rfl, rfl, h0, h1⟩
  walk_at "rd"
  refine ZdB (s0.seq hS) fun p2 hp2 => ?_
  rw [em]
  refine ZcZ (SqL.of Zae) ?_
  have s2 := Same.new (o := .lst (ms.map V.int)) hp2
  generalize hH2 : upd H1 p2 (HO.lst (ms.map V.int)) = H2 at s2
  have hp2' : H2 p2 = some (.lst (ms.map V.int)) := by rw [<- hH2]; exact Zae
  refine ZfS (xs := ms.map V.int) (Zcg (by rw [List.length_map]; lia)) (fun i ys σ H3 => An3 (∃ x1, σ = [x1]) (H3 = H2) (∃ zs : List Int, ys = zs.map V.int /\ ∀ z ∈ zs, 0 <= z /\ z <= 10 ^ 60)) ⟨⟨none, rfl⟩, rfl, [], rfl, fun _ h => by cases h⟩ (fun i ys σ H3 _ z_ => by obtain ⟨_, e, _⟩ := z_; rw [e]; exact SqL.of hp2') ?_ ?_
  ·rintro i x ys σ H3 hx hle hlt ⟨⟨x1, rfl⟩, rfl, zs, rfl, hz⟩
   obtain ⟨z, rfl, _⟩ := Zhz hx
   walk_at "rd"
   refine rd_I Zlr ?_
   refine rd_I (by decide +kernel) ?_
   rw [ten60]
   refine ⟨hlt, by simpa using hle, ⟨_, rfl⟩, rfl, zs ++ [_], by rw [List.map_append]; rfl, fun u hu => ?_⟩
   rcases List.mem_append.mp hu with hu | hu
   ·exact hz u hu
   ·obtain rfl := List.mem_singleton.mp hu
    lia
  ·rintro ys σ H3 hyl ⟨⟨x1, rfl⟩, rfl, zs, rfl, hz⟩ l hl
   walk_at "rd"
   walk_at "mk"; intro bb hbb
   have sA := Same.new (o := .lst (zs.map V.int)) hl
   have sB := Same.new (o := .lst [V.ref l, V.int 0, V.int 0, V.int st, V.int 0]) hbb
   have sall := ((s0.trans s2).trans sA).trans sB
   rw [List.length_map, List.length_map] at hyl
   exact k bb l _ (((s0.trans s2).trans sA).free hbb) sall ⟨zs, 0, 0, st, 0, Zae, Zlv Zae hbb, Nat.zero_le _, ⟨by decide, by decide⟩, ⟨h0, h1⟩, hz, by lia⟩
noncomputable def Zcm : Sp := sp0 fun H Q => ∀ p H', H p = none -> H' p = some (.dK lettersKV) -> Same H H' -> Q (.ref p) H'
theorem sc__law_letters : FnScope [] [] (Zag Zbg) := ⟨rfl, rfl, rfl, by decide +kernel, rfl, by decide +kernel, by decide +kernel⟩
theorem Ze4 (T__law_letters : TopFn K mg "_law_letters" Zbg []) : Callee P w K mg base "_law_letters" 1 [] Zcm := by
 refine T__law_letters.ok0 sc__law_letters fun f cdv A outer s H Q E hr h => ?_
 have nd := sc__law_letters.nd
 refine Zbd [] rfl (t := tRet (tDisp ((lettersKV.map fun kv => (kV kv.1, kv.2)).map fun q => (tC q.1, tC q.2)))) ?hh ?_
 case hh =>
  refine Zaf ?_
  refine Zas ?_
  refine Zmn ?_ ?_ ?_ ?_ ?_
  rotate_left
  ·rfl
  ·rfl
  ·exact List.cons_ne_nil _ _
  ·exact Nat.le_of_ble_eq_true rfl
  simp only [lettersKV, lettersL, List.map_cons, List.map_nil, kV]
  repeat (refine Zks ?_ ?_ ?_; exact Zan; exact Zan)
  exact Zmk
 refine Zla fun p hp => ?_
 refine Zha (lettersKV.map fun kv => (kV kv.1, kv.2)) ?_
 refine ⟨Zae, lettersKV, rfl, by decide, ?_⟩
 rw [ZfJ, Zh9]
 exact h p _ hp Zae (Same.new hp)
inductive Pr_part (x1 x2 x3 x4 x5 : V) (H : Hp) (Q : VK) : Prop
 | mk (b l c boxes many sp xs) (_ : x1 = .ref b) (_ : x2 = .str c) (_ : x3 = .int boxes) (_ : x4 = .int many) (_ : x5 = .ref sp) (_ : 1 <= boxes /\ boxes <= 1000) (_ : 1 <= many /\ many <= 1000) (_ : H sp = some (.lst xs)) (_ : 0 < xs.length /\ xs.length <= 1000) (_ : sp ≠ b) (_ : BagAt H b l) (_ : ∀ n H', ZjV boxes many xs.length c n -> BagAt H' b l -> BSame b H H' -> Q (.int n) H') : Pr_part x1 x2 x3 x4 x5 H Q
noncomputable def Zin : Sp := sp5 (Pr_part)
theorem sc__law_part : FnScope ["bag", "letter", "boxes", "many", "signs"] ["bag", "letter", "boxes", "many", "signs"] (Zag ZbI) := ⟨rfl, rfl, rfl, by decide +kernel, rfl, by decide +kernel, by decide +kernel⟩
theorem ZgX (B : Blt mg) (T__law_part : TopFn K mg "_law_part" ZbI ["bag", "letter", "boxes", "many", "signs"]) (Zah : Callee P w K mg base "_law_draw" 1 ["bag", "many"] Zcb) (ZaF : Callee P w K mg base "_law_number" 2 ["bag"] ZcD) :
  Callee P w K mg base "_law_part" 3 ["bag", "letter", "boxes", "many", "signs"] Zin := by
 refine T__law_part.ok5 sc__law_part fun f cdv A outer s H v1 v2 v3 v4 v5 Q E hr h => ?_
 have nd := sc__law_part.nd
 obtain ⟨b, l, c, boxes, many, sp, xs, rfl, rfl, rfl, rfl, rfl, ⟨b0, b1⟩, ⟨m0, m1⟩, hsp, ⟨x0, x1⟩, nsp, Bg, k⟩ := h
 refine' Zbd [some (.ref b), some (.str c), some (.int boxes), some (.int many), some (.ref sp)] rfl ?hb ?hg
 case' hb => refine' Zac ?bab ?bac
 case' bab => refine' ZaL ?bad ?bae ?baf
 case bad => exact (Zal Zba (pv 1) Zan (Zao _))
 case bae => exact (Zaf (Zas (ZaG Zah (hr.mono (by first | decide | lia)) (by rfl) (Zaa (pv 0) (Zaa (pv 2) Zab)))))
 case baf => exact Zaq
 case' bac => refine' Zac ?bag ?bah
 case' bag => refine' ZaL ?bai ?baj ?bak
 case bai => exact (Zal Zba (pv 1) Zan (Zao _))
 case baj => exact (Zaf (Zas (ZaG Zah (hr.mono (by first | decide | lia)) (by rfl) (Zaa (pv 0) (Zaa (pv 3) Zab)))))
 case bak => exact Zaq
 case' bah => refine' Zac ?bal ?bam
 case' bal => refine' ZaL ?ban ?bao ?bap
 case ban => exact (Zal Zba (pv 1) Zan (Zao _))
 case' bao => refine' Zaf ?baq
 case' baq => refine' Zas ?bar
 case' bar => refine' ZaG ?bas ?bat ?bau ?bav
 case bas => exact Zah
 case bat => exact (hr.mono (by first | decide | lia))
 case bau => exact (by rfl)
 case bav => exact (Zaa (pv 0) (ZaJ (Zap (Zb9 (K := K) rfl) (by rfl) B.b_len Zbw (Zaa (pv 4) Zab)) Zab))
 case bap => exact Zaq
 case' bam => refine' Zac ?baw ?bax
 case' baw => refine' ZaL ?bay ?baz ?bba
 case bay => exact (Zal Zba (pv 1) Zan (Zao _))
 case baz => exact (Zaf (Zas (Zam Zge (ZaG Zah (hr.mono (by first | decide | lia)) (by rfl) (Zaa (pv 0) (Zai Zad Zab))) Zad)))
 case bba => exact Zaq
 case bax => exact (Zaf (Zas (ZaG ZaF (hr.mono (by first | decide | lia)) (by rfl) (Zaa (pv 0) Zab))))
 walk_at "rd"
 refine ZaH (fun e => ?_) (fun np => ?_)
 ·walk_at "rd"
  refine use2 ⟨b, l, boxes, rfl, rfl, ⟨by lia, by lia⟩, Bg, fun n H' n0 n1 B' b' => ?_⟩
  subst e
  exact k n H' ⟨fun _ => ⟨n0, n1⟩, fun z => absurd z (by decide), fun z => absurd z (by decide), fun z => absurd z (by decide), by lia⟩ B' b'
 ·walk_at "rd"
  refine ZaH (fun e => ?_) (fun nt => ?_)
  ·walk_at "rd"
   refine use2 ⟨b, l, many, rfl, rfl, ⟨by lia, by lia⟩, Bg, fun n H' n0 n1 B' b' => ?_⟩
   subst e
   exact k n H' ⟨fun z => absurd z (by decide), fun _ => ⟨n0, n1⟩, fun z => absurd z (by decide), fun z => absurd z (by decide), by lia⟩ B' b'
  ·walk_at "rd"
   refine ZaH (fun e => ?_) (fun nf => ?_)
   ·walk_at "rd"
    refine Zbk (SqL.of hsp) ?_
    walk_at "rd"
    refine use2 ⟨b, l, xs.length, rfl, rfl, ⟨by lia, by lia⟩, Bg, fun n H' n0 n1 B' b' => ?_⟩
    subst e
    exact k n H' ⟨fun z => absurd z (by decide), fun z => absurd z (by decide), fun _ => ⟨n0, n1⟩, fun z => absurd z (by decide), by lia⟩ B' b'
   ·walk_at "rd"
    refine ZaH (fun e => ?_) (fun nc => ?_)
    ·walk_at "rd"
     refine use2 ⟨b, l, 199, rfl, rfl, ⟨by decide, by decide⟩, Bg, fun n H' n0 n1 B' b' => ?_⟩
     subst e
     walk_at "rd"
     exact k _ H' ⟨fun z => absurd z (by decide), fun z => absurd z (by decide), fun z => absurd z (by decide), fun _ => by lia, by lia⟩ B' b'
    ·walk_at "rd"
     refine use1 ⟨b, l, rfl, Bg, fun n H' n0 B' b' => ?_⟩
     exact k n H' ⟨fun z => absurd z np, fun z => absurd z nt, fun z => absurd z nf, fun z => absurd z nc, n0⟩ B' b'
inductive Pr_row (x1 x2 x3 x4 x5 : V) (H : Hp) (Q : VK) : Prop
 | mk (b l wd ls boxes many sp xs sg) (_ : x1 = .ref b) (_ : x2 = .str wd) (_ : x3 = .int boxes) (_ : x4 = .int many) (_ : x5 = .ref sp) (_ : (wd, ls) ∈ lettersL) (_ : 1 <= boxes /\ boxes <= 1000) (_ : 1 <= many /\ many <= 1000) (_ : H sp = some (.lst xs)) (_ : Reps H (sg.map ZgK) xs) (_ : SgOk sg) (_ : sp ≠ b) (_ : BagAt H b l) (_ : ∀ ps v H', RowG sg boxes many wd ls ps -> Rep H' (rowD (wd, ps)) v -> BagAt H' b l -> BSame b H H' -> Q v H') : Pr_row x1 x2 x3 x4 x5 H Q
noncomputable def Zk9 : Sp := sp5 (Pr_row)
theorem sc__law_row : FnScope ["bag", "word", "boxes", "many", "signs", "row", "letter", "args"] ["bag", "word", "boxes", "many", "signs"] (Zag ZbQ) := ⟨rfl, rfl, rfl, by decide +kernel, rfl, by decide +kernel, by decide +kernel⟩
theorem Zh0 (B : Blt mg) (T__law_row : TopFn K mg "_law_row" ZbQ ["bag", "word", "boxes", "many", "signs"]) (Zah : Callee P w K mg base "_law_draw" 1 ["bag", "many"] Zcb) (Zaz : Callee P w K mg base "_law_letters" 1 [] Zcm)
  (Zd3 : Callee P w K mg base "_law_part" 3 ["bag", "letter", "boxes", "many", "signs"] Zin) : Callee P w K mg base "_law_row" 4 ["bag", "word", "boxes", "many", "signs"] Zk9 := by
 refine T__law_row.ok5 sc__law_row fun f cdv A outer s H v1 v2 v3 v4 v5 Q E hr h => ?_
 have nd := sc__law_row.nd
 have hu := hr.units
 have hu1 := ZmG hr
 obtain ⟨b, l, wd, ls, boxes, many, sp, xs, sg, rfl, rfl, rfl, rfl, rfl, tab, ⟨b0, b1⟩, ⟨m0, m1⟩, hsp, rsg, SG, nsp, Bg, k⟩ := h
 refine' Zbd [some (.ref b), some (.str wd), some (.int boxes), some (.int many), some (.ref sp), none, none, none] rfl ?hb ?hg
 case' hb => refine' Zac ?bab ?bac
 case bab => exact (Zmi (i := 5) nd rfl (Or.inl rfl) (Zcx (Zaa (pv 1) Zab)))
 case' bac => refine' Zac ?bad ?bae
 case' bad => refine' Zb8 ?baf ?bag ?bah ?bai ?baj
 case baf => exact PassesOwn.never
 case bag => exact rfl
 case bah => exact (Zem (K := K) rfl (ZiY hu1 (Zfc Zaz (hr.mono (by first | decide | lia)) (by rfl)) (pv 1) (fun _ _ => rfl)))
 case bai => exact (ZaE (i := 6) nd rfl (Or.inl rfl))
 case' baj => refine' Zaf ?bak
 case' bak => refine' ZaL ?bal ?bam ?ban
 case bal => exact (Zal Zba (pv 6) Zan (Zao _))
 case' bam => refine' Zac ?bao ?bap
 case' bao => refine' ZfE (i := 7) (LN := ["k"]) (FN := ["bag", "boxes"]) (fr := [0, 2]) ?baq ?bar ?bas ?bat ?bau ?bav ?baw ?bax ?bay
 case baq => exact rfl
 case bar => exact nd
 case bas => exact rfl
 case bat => exact rfl
 case bau => exact (ZdO (by rfl))
 case' bav => refine' Zbs ?baz ?bba ?bbb
 case baz => exact rfl
 case bba => exact B.b_range
 case' bbb => refine' Za1 ?bbc ?bbd
 case' bbc => refine' Zax ?bbe ?bbf ?bbg ?bbh
 case bbe => exact (k_ix (K := K) rfl)
 case bbf => exact (Zax (k_ix (K := K) rfl) (pv 4) (Zax (k_ix (K := K) rfl) (pv 5) Zad (fun _ _ => rfl)) (fun _ _ => rfl))
 case bbg => exact Zad
 case bbh => exact (fun _ _ => rfl)
 case bbd => exact Zab
 case' baw => intro cl C fp pins s H
 case baw => exact (ZaE (i := 0) (show ((["k"] : List Str) ++ (["bag", "boxes"] : List Str)).Nodup by decide +kernel) rfl (Or.inl rfl))
 case' bax => intro cl C fp pins s H
 case bax => exact Zcc
 case' bay => intro cl C fp pins s H
 case bay => exact (ZaG Zah (hr.mono (by first | decide | lia)) (by rfl) (Zaa (pv 1) (Zaa (pv 2) Zab)))
 case' bap => refine' Zaf ?bbi
 case' bbi => refine' Za0 (i := 5) ?bbj ?bbk ?bbl ?bbm
 case bbj => exact nd
 case bbk => exact rfl
 case bbl => exact (Or.inl rfl)
 case' bbm => refine' Zam ?bbn ?bbo ?bbp
 case bbn => exact (Zlk (K := K) rfl)
 case bbo => exact (pv 5)
 case bbp => exact (Zcx (ZaJ (ZaS (Zds (K := K) rfl) (by rfl) B.b_tuple Zb5 (Zaa (pv 7) Zab)) Zab))
 case' ban => refine' Zaf ?bbq
 case' bbq => refine' Za0 (i := 5) ?bbr ?bbs ?bbt ?bbu
 case bbr => exact nd
 case bbs => exact rfl
 case bbt => exact (Or.inl rfl)
 case' bbu => refine' Zam ?bbv ?bbw ?bbx
 case bbv => exact (Zlk (K := K) rfl)
 case bbw => exact (pv 5)
 case' bbx => refine' Zcx ?bby
 case' bby => refine' ZaJ ?bbz ?bca
 case' bbz => refine' ZaG ?bcb ?bcc ?bcd ?bce
 case bcb => exact Zd3
 case bcc => exact (hr.mono (by first | decide | lia))
 case bcd => exact (by rfl)
 case bce => exact (Zaa (pv 0) (Zaa (pv 6) (Zaa (pv 2) (Zaa (pv 3) (Zaa (pv 4) Zab)))))
 case bca => exact Zab
 case bae => exact (Zaf (Zas (pv 5)))
 walk_at "rd"
 walk_at "mk"; intro p0 hp0
 have s0 := Same.new (o := .tup [V.str wd]) hp0
 walk_at "rd"
 refine ZfA ?_
 walk_at "rd"
 refine use0 (b := fun H Q => ∀ p H', H p = none -> H' p = some (.dK lettersKV) -> Same H H' -> Q (.ref p) H') fun pd H1 hpd hd s1 => ?_
 walk_at "rd"
 refine ⟨pd, _, rfl, (ZeN tab) ▸ DGet.k (k := Sum.inr wd) hd, ?_⟩
 refine ⟨ls, rfl, Zfd _ tab, ?_⟩
 have xlen := rsg.length
 rw [List.length_map] at xlen
 have hsp1 := (s0.trans s1) _ _ hsp
 refine ZmJ (fun i σ Hx => Ex5 fun rt ps vs x6 x7 => An7 (σ = [some (.ref b), some (.str wd), some (.int boxes), some (.int many), some (.ref sp), some (.ref rt), x6, x7]) (Hx rt = some (.tup (V.str wd :: vs))) (Reps Hx ps vs) (ps.length = i) (BagAt Hx b l) (BSame b H Hx) (∀ j c, j < i -> ls.cps[j]? = some c -> ∃ d, ps[j]? = some d /\ Zh3 sg boxes many ps ⟨#[c]⟩ d))
  ⟨p0, [], [], none, none, rfl, s1 _ _ Zae, ZaT, rfl, Bg.mono (s0.trans s1), (BSame.refl b H).to (s0.trans s1), fun j c hj => absurd hj (Nat.not_lt_zero _)⟩ ?_ ?_
 ·rintro i c σ Hx hc ⟨rt, ps, vs, x6, x7, rfl, hrt, rps, hpl, Bx, bx, hps⟩
  have hspx : Hx sp = some (.lst xs) := bx _ _ nsp hsp
  have hvl := rps.length
  have more : ∀ (d : D) (u : V) (H5 : Hp) (t1 : Addr), Rep H5 d u -> (∀ c', c' = (⟨#[c]⟩ : Str) -> Zh3 sg boxes many (ps ++ [d]) c' d) -> BagAt H5 b l -> BSame b H H5 -> H5 rt = some (.tup (V.str wd :: vs)) -> Reps H5 ps vs -> H5 t1 = none ->
    ∃ rt' ps' vs', (upd H5 t1 (.tup (V.str wd :: vs ++ [u]))) t1 = some (.tup (V.str wd :: vs')) /\ rt' = t1 /\ Reps (upd H5 t1 (.tup (V.str wd :: vs ++ [u]))) ps' vs' /\ ps'.length = i + 1 /\ BagAt (upd H5 t1 (.tup (V.str wd :: vs ++ [u]))) b l /\ BSame b H (upd H5 t1 (.tup (V.str wd :: vs ++ [u]))) /\
    ∀ j c, j < i + 1 -> ls.cps[j]? = some c -> ∃ d, ps'[j]? = some d /\ Zh3 sg boxes many ps' ⟨#[c]⟩ d := by
   intro d u H5 t1 rd hd B5 b5 h5 r5 ht1
   have s5 := Same.new (o := .tup (V.str wd :: vs ++ [u])) ht1
   refine ⟨t1, ps ++ [d], vs ++ [u], Zae, rfl, Reps.append (r5.mono s5.ts) (Zau (rd.mono s5.ts) ZaT), by simp [hpl], B5.mono s5, b5.to s5, fun j c' hj hc' => ?_⟩
   rcases Nat.lt_or_ge j i with q | q
   ·obtain ⟨d', e1, e2⟩ := hps j c' q hc'
    refine ⟨d', by rw [List.getElem?_append_left (by lia)]; exact e1, ?_⟩
    rcases e2 with e2 | ⟨e2, args, f', tk, e3, e4⟩
    ·exact .inl e2
    ·have hl1 : 1 < ps.length := (List.getElem?_eq_some_iff.mp e3).1
     exact .inr ⟨e2, args, f', tk, by rw [List.getElem?_append_left hl1]; exact e3, e4⟩
   ·have : j = i := by lia
    subst this
    rw [hc] at hc'
    cases hc'
    exact ⟨d, by rw [List.getElem?_append_right (by lia), hpl]; simp, hd _ rfl⟩
  walk_at "rd"
  refine ZaH (fun hq => ?_) (fun hq => ?_)
  ·obtain ⟨hi2, c1, hc1, hf⟩ := q_at tab hc hq
   obtain ⟨d1, ed1, g1⟩ := hps 1 c1 (by lia) hc1
   have g3 : ∃ n, d1 = .int n /\ ZjV boxes many sg.length ⟨#[c1]⟩ n := by
    rcases g1 with g1 | g1
    ·exact g1.2
    ·rw [hf] at g1
     exact absurd g1.1 (by decide)
   clear g1
   obtain ⟨n1, rfl, g1⟩ := g3
   have g2 := g1.2.2.1 hf
   obtain ⟨n1, rfl⟩ := Int.eq_ofNat_of_zero_le g2.1
   obtain ⟨u1, eu1, ru1⟩ := rps.get ed1
   obtain rfl := Zbr ru1
   have hn1 : n1 < sg.length := by lia
   have esg : sg[n1]? = some sg[n1] := List.getElem?_eq_getElem hn1
   have rsx := rsg.mono (bx.ts Bg)
   obtain ⟨u2, eu2, ru2⟩ := rsx.get (i := n1) (d := ZgK sg[n1]) (by rw [List.getElem?_map, esg]; rfl)
   have gk := SG.all _ (List.getElem_mem hn1)
   walk_at "rd"
   refine Zdo hrt (v := .int n1) (Zar (n := 2) rfl (by simpa using eu1)) ?_
   refine Zak hspx (Zar (n := n1) rfl eu2) ?_
   walk_at "rd"
   refine rd_ixI (n := 0) ru2 rfl rfl ?_
   walk_at "rd"
   refine ZcJ (by lia) (by lia) ?_
   refine Zdh (Zcg (by lia)) (fun j ys σ Hy => (∃ x1, σ = [x1, some (.ref b), some (.int boxes)]) /\ ∃ zs : List Int, An5 (ys = zs.map V.int) (zs.length = j) (∀ z ∈ zs, 0 <= z /\ z < boxes) (BagAt Hy b l) (BSame b Hx Hy)) ⟨⟨none, rfl⟩, [], rfl, rfl, by simp, Bx, BSame.refl _ _⟩ ?_ ?_
   ·rintro j ys σ Hy hj hle hlt ⟨⟨x1, rfl⟩, zs, rfl, hz, hb, By, bY⟩
    walk_at "rd"
    refine use2 ⟨b, l, boxes, rfl, rfl, ⟨by lia, by lia⟩, By, fun r H2 g0 g1' B2 b2 => ?_⟩
    refine ⟨hlt, by simpa using hle, ⟨_, rfl⟩, zs ++ [r], by simp, by simp [hz], ?_, B2, bY.trans b2⟩
    intro z hz'
    rcases List.mem_append.mp hz' with hz' | hz'
    ·exact hb z hz'
    ·obtain rfl := List.mem_singleton.mp hz'
     exact ⟨g0, g1'⟩
   ·rintro ys σ Hy hyl ⟨⟨x1, rfl⟩, zs, rfl, hz, hb, By, bY⟩ pa hpa
    have sa := Same.new (o := .lst (zs.map V.int)) hpa
    walk_at "rd"
    refine Zdn (SqL.of Zae) fun t2 ht2 => ?_
    have sb := Same.new (o := .tup (zs.map V.int)) ht2
    walk_at "mk"; intro t3 ht3
    have sc := Same.new (o := .tup [V.ref t2]) ht3
    have hb' : ∀ xs, Hx rt = some xs -> rt ≠ b := fun xs _ => by
     obtain ⟨zs', hb2⟩ := Bx.lst
     exact Zmw hrt hb2 (by intro z; cases z)
    have nrt := hb' _ hrt
    have h5 := ((sa.trans sb).trans sc) _ _ (bY _ _ nrt hrt)
    refine ⟨rt, t3, _, _, rfl, rfl, SqT.of h5, SqT.of Zae, by simp, Zcg (by simp; have : ls.cps.size <= 3 := le3 tab; have := (Array.getElem?_eq_some_iff.mp hc).1; lia), fun z => absurd z (by simp), fun _ t4 ht4 => ?_⟩
    walk_at "rd"
    obtain ⟨rt', ps', vs', q1, rfl, q2, q3, q4, q5, q6⟩ := more (.tup (zs.map D.int)) (.ref t2) _ t4 (ZbY (sc _ _ Zae) (Zcv zs)) (fun c' ec => .inr ⟨by rw [ec]; exact hq, zs, n1, sg[n1], by rw [List.getElem?_append_left (by lia)]; exact ed1, esg, rfl, by lia, hb⟩)
     (((By.mono sa).mono sb).mono sc) ((bx.trans bY).to ((sa.trans sb).trans sc)) h5 ((rps.mono (bY.ts Bx)).mono ((sa.trans sb).trans sc).ts) ht4
    exact ⟨_, ps', vs', _, _, rfl, q1, q2, q3, q4, q5, q6⟩
  ·walk_at "rd"
   refine use5 ⟨b, l, ⟨#[c]⟩, boxes, many, sp, xs, rfl, rfl, rfl, rfl, rfl, ⟨b0, b1⟩, ⟨m0, m1⟩, hspx, ⟨by have := SG.pos; lia, by have := SG.few; lia⟩, nsp, Bx, fun n H2 hn B2 b2 => ?_⟩
   walk_at "rd"
   walk_at "mk"; intro t3 ht3
   have sc := Same.new (o := .tup [V.int n]) ht3
   obtain ⟨zs', hb2⟩ := Bx.lst
   have nrt := Zmw hrt hb2 (by intro z; cases z)
   have h5 := sc _ _ (b2 _ _ nrt hrt)
   refine ⟨rt, t3, _, _, rfl, rfl, SqT.of h5, SqT.of Zae, by simp, Zcg (by simp; have : ls.cps.size <= 3 := le3 tab; have := (Array.getElem?_eq_some_iff.mp hc).1; lia), fun z => absurd z (by simp), fun _ t4 ht4 => ?_⟩
   walk_at "rd"
   rw [<- xlen] at hn
   obtain ⟨rt', ps', vs', q1, rfl, q2, q3, q4, q5, q6⟩ := more (.int n) (.int n) _ t4 ZbZ (fun c' ec => .inl ⟨by rw [ec]; exact hq, n, rfl, by rw [ec]; exact hn⟩) (B2.mono sc) ((bx.trans b2).to sc) h5 ((rps.mono (b2.ts Bx)).mono sc.ts) ht4
   exact ⟨_, ps', vs', _, _, rfl, q1, q2, q3, q4, q5, q6⟩
 ·rintro σ Hx ⟨rt, ps, vs, x6, x7, rfl, hrt, rps, hpl, Bx, bx, hps⟩
  walk_at "rd"
  exact k ps _ _ ⟨tab, hpl, fun i c e => hps i c (Array.getElem?_eq_some_iff.mp e).1 e⟩ (ZbY hrt (Zau (by rw [Rep]) rps)) Bx bx
inductive Pr_rows (x1 x2 x3 x4 : V) (H : Hp) (Q : VK) : Prop
 | mk (b l boxes many sp xs sg) (_ : x1 = .ref b) (_ : x2 = .int boxes) (_ : x3 = .int many) (_ : x4 = .ref sp) (_ : 1 <= boxes /\ boxes <= 8) (_ : 1 <= many /\ many <= 30) (_ : H sp = some (.lst xs)) (_ : Reps H (sg.map ZgK) xs) (_ : SgOk sg) (_ : sp ≠ b) (_ : BagAt H b l) (_ : ∀ rs q ys H', RowsOk sg boxes many rs -> H q = none -> q ≠ b -> q ≠ l -> H' q = some (.lst ys) -> Reps H' (rs.map rowD) ys -> BagAt H' b l -> BSame b H H' -> Q (.ref q) H') : Pr_rows x1 x2 x3 x4 H Q
noncomputable def Zik : Sp := sp4 (Pr_rows)
theorem sc__law_rows : FnScope ["bag", "boxes", "many", "signs", "rows", "k", "word"] ["bag", "boxes", "many", "signs"] (Zag ZbG) := ⟨rfl, rfl, rfl, by decide +kernel, rfl, by decide +kernel, by decide +kernel⟩
theorem ZgV (B : Blt mg) (T__law_rows : TopFn K mg "_law_rows" ZbG ["bag", "boxes", "many", "signs"]) (Zah : Callee P w K mg base "_law_draw" 1 ["bag", "many"] Zcb) (Zaz : Callee P w K mg base "_law_letters" 1 [] Zcm)
  (ZdP : Callee P w K mg base "_law_row" 4 ["bag", "word", "boxes", "many", "signs"] Zk9) : Callee P w K mg base "_law_rows" 5 ["bag", "boxes", "many", "signs"] Zik := by
 refine T__law_rows.ok4 sc__law_rows fun f cdv A outer s H v1 v2 v3 v4 Q E hr h => ?_
 have nd := sc__law_rows.nd
 obtain ⟨b, l, boxes, many, sp, xs, sg, rfl, rfl, rfl, rfl, ⟨b0, b1⟩, ⟨m0, m1⟩, hsp, rsg, SG, nsp, Bg, k⟩ := h
 refine' Zbd [some (.ref b), some (.int boxes), some (.int many), some (.ref sp), none, none, none] rfl ?hb ?hg
 case' hb => refine' Zac ?bab ?bac
 case bab => exact (Zb0 (i := 4) nd rfl (Or.inl rfl) (Za4 Zab))
 case' bac => refine' Zac ?bad ?bae
 case' bad => refine' Zb8 ?baf ?bag ?bah ?bai ?baj
 case baf => exact PassesOwn.never
 case bag => exact rfl
 case bah => exact (Zbs rfl B.b_range (ZaW (Zam Zge (pv 2) Zad) Zab))
 case bai => exact (ZaE (i := 5) nd rfl (Or.inl rfl))
 case' baj => refine' Zac ?bak ?bal
 case' bak => refine' Zdq (i := 6) ?bam ?ban ?bao ?bap
 case bam => exact nd
 case ban => exact rfl
 case bao => exact (Or.inl rfl)
 case' bap => refine' Zax ?baq ?bar ?bas ?bat
 case baq => exact (k_ix (K := K) rfl)
 case bar => exact (ZaS (ZdX rfl) (by rfl) B.b_list ZfX (ZaJ (Zfc Zaz (hr.mono (by first | decide | lia)) (by rfl)) Zab))
 case bas => exact (ZaG Zah (hr.mono (by first | decide | lia)) (by rfl) (Zaa (pv 0) (Zai Zad Zab)))
 case bat => exact (fun _ _ => rfl)
 case' bal => refine' Zaf ?bau
 case' bau => refine' ZbL ?bav
 case' bav => refine' k_bm (K := K) ?baw ?bax ?bay ?baz ?bba ?bbb ?bbc
 case baw => exact rfl
 case bax => exact PySem.F.plainAttrs_list
 case bay => exact PySem.F.slot_list_append
 case baz => exact PySem.F.type_list_append
 case bba => exact Zbb
 case bbb => exact (pv 4)
 case' bbc => refine' ZaJ ?bbd ?bbe
 case' bbd => refine' ZaG ?bbf ?bbg ?bbh ?bbi
 case bbf => exact ZdP
 case bbg => exact (hr.mono (by first | decide | lia))
 case bbh => exact (by rfl)
 case bbi => exact (Zaa (pv 0) (Zaa (pv 6) (Zaa (pv 1) (Zaa (pv 2) (Zaa (pv 3) Zab)))))
 case bbe => exact Zab
 case' bae => refine' Zac ?bbj ?bbk
 case' bbj => refine' ZbL ?bbl
 case' bbl => refine' k_bm (K := K) ?bbm ?bbn ?bbo ?bbp ?bbq ?bbr ?bbs
 case bbm => exact rfl
 case bbn => exact PySem.F.plainAttrs_list
 case bbo => exact PySem.F.slot_list_append
 case bbp => exact PySem.F.type_list_append
 case bbq => exact Zbb
 case bbr => exact (pv 4)
 case' bbs => refine' ZaJ ?bbt ?bbu
 case' bbt => refine' ZaG ?bbv ?bbw ?bbx ?bby
 case bbv => exact ZdP
 case bbw => exact (hr.mono (by first | decide | lia))
 case bbx => exact (by rfl)
 case' bby => refine' Zaa ?bbz ?bca
 case bbz => exact (pv 0)
 case' bca => refine' Za1 ?bcb ?bcc
 case' bcb => refine' Zax ?bcd ?bce ?bcf ?bcg
 case bcd => exact (k_ix (K := K) rfl)
 case bce => exact (Za4 (Zai Zan (Zai Zan Zab)))
 case bcf => exact (ZaG Zah (hr.mono (by first | decide | lia)) (by rfl) (Zaa (pv 0) (Zai Zad Zab)))
 case bcg => exact (fun _ _ => rfl)
 case bcc => exact (Zaa (pv 1) (Zaa (pv 2) (Zaa (pv 3) Zab)))
 case bbu => exact Zab
 case bbk => exact (Zaf (Zas (pv 4)))
 walk_at "rd"
 walk_at "mk"; intro q hq
 have s0 := Same.new (o := .lst []) hq
 have nqb : q ≠ b := fun z => (Bg.ne hq).1 z.symm
 have nql : q ≠ l := fun z => (Bg.ne hq).2 z.symm
 have nqs : sp ≠ q := Zbn hsp hq
 walk_at "rd"
 refine ZcJ (by lia) (by lia) ?_
 refine Zc9 (n := (many - 1).toNat) (fun i σ Hx => Ex4 fun rs ys x5 x6 => An7 (σ = [some (.ref b), some (.int boxes), some (.int many), some (.ref sp), some (.ref q), x5, x6]) (Hx q = some (.lst ys)) (Reps Hx (rs.map rowD) ys) (rs.length = i) (∀ r ∈ rs, ZjT sg boxes many r) (BagAt Hx b l) (BSame b H Hx))
  ⟨[], [], none, none, rfl, Zae, ZaT, rfl, by simp, Bg.mono s0, (BSame.refl b H).to s0⟩ ?_ ?_
 ·rintro i σ Hx hi ⟨rs, ys, x5, x6, rfl, hqx, rr, hl, ok, Bx, bx⟩
  have hyl := rr.length
  rw [List.length_map] at hyl
  walk_at "rd"
  refine use0 (b := fun H Q => ∀ p H', H p = none -> H' p = some (.dK lettersKV) -> Same H H' -> Q (.ref p) H') fun pd H1 hpd hd s1 => ?_
  walk_at "rd"
  refine ⟨pd, lettersKV, rfl, hd, fun pl hpl => ?_⟩
  have s2 := Same.new (o := .lst (lettersKV.map fun q => kV q.1)) hpl
  have B2 := (Bx.mono s1).mono s2
  walk_at "rd"
  refine use2 ⟨b, l, 12, rfl, rfl, ⟨by decide, by decide⟩, B2, fun r H3 r0 r1 B3 b3 => ?_⟩
  have npl : pl ≠ b := fun z => ((Bx.mono s1).ne hpl).1 z.symm
  obtain ⟨r, rfl⟩ := Int.eq_ofNat_of_zero_le r0
  have hr12 : r < lettersL.length := by
   have : lettersL.length = 12 := rfl
   lia
  have ew : (lettersKV.map fun q => kV q.1)[r]? = some (V.str lettersL[r].1) := by
   unfold lettersKV
   rw [List.map_map, List.getElem?_map, List.getElem?_eq_getElem hr12]
   rfl
  refine Zak (b3 _ _ npl Zae) (Zar (n := r) rfl ew) ?_
  walk_at "rd"
  have hqx3 : H3 q = some (.lst ys) := b3 _ _ nqb ((s1.trans s2) _ _ hqx)
  refine ⟨.inl ⟨rfl, ys, SqL.of hqx3⟩, ?_⟩
  walk_at "rd"
  have bb : BSame b H H3 := (bx.to (s1.trans s2)).trans b3
  refine use5 ⟨b, l, lettersL[r].1, lettersL[r].2, boxes, many, sp, xs, sg, rfl, rfl, rfl, rfl, rfl, List.getElem_mem hr12, ⟨b0, by lia⟩, ⟨m0, by lia⟩, bb _ _ nsp hsp, rsg.mono (bb.ts Bg), SG, nsp, B3, fun ps v H4 g4 r4 B4 b4 => ?_⟩
  walk_at "rd"
  have hq4 := b4 _ _ nqb hqx3
  refine ZaV hq4 (Nat.lt_of_le_of_lt (show ys.length <= 1000 by lia) (by decide)) ?_
  walk_at "rd"
  have tw : TSame H4 (upd H4 q (.lst (ys ++ [v]))) := TSame.wr (fun zs z => by rw [hq4] at z; cases z)
  refine ⟨rs ++ [(lettersL[r].1, ps)], ys ++ [v], _, _, rfl, Zae, ?_, by simp [hl], ?_, B4.wr (Ne.symm nqb) (Ne.symm nql), (bb.trans b4).wrNew hq⟩
  ·rw [List.map_append]
   exact Reps.append ((((rr.mono (s1.trans s2).ts).mono (b3.ts B2)).mono (b4.ts B3)).mono tw) (Zau (r4.mono tw) ZaT)
  ·intro x hx
   rcases List.mem_append.mp hx with hx | hx
   ·exact ok x hx
   ·obtain rfl := List.mem_singleton.mp hx
    exact ⟨_, g4⟩
 ·rintro σ Hx ⟨rs, ys, x5, x6, rfl, hqx, rr, hl, ok, Bx, bx⟩
  have hyl := rr.length
  rw [List.length_map] at hyl
  walk_at "rd"
  refine ⟨.inl ⟨rfl, ys, SqL.of hqx⟩, ?_⟩
  walk_at "rd"
  walk_at "mk"; intro pl hpl
  have s2 := Same.new (o := .lst [V.str "back", V.str "jump"]) hpl
  have B2 := Bx.mono s2
  walk_at "rd"
  refine use2 ⟨b, l, 2, rfl, rfl, ⟨by decide, by decide⟩, B2, fun r H3 r0 r1 B3 b3 => ?_⟩
  have npl : pl ≠ b := fun z => (Bx.ne hpl).1 z.symm
  obtain ⟨wd, ls, tab, hw, ew⟩ : ∃ wd ls, (wd, ls) ∈ lettersL /\ (wd = "back" \/ wd = "jump") /\ atI [V.str "back", V.str "jump"] r = some (.str wd) := by
   rcases (show r = 0 \/ r = 1 by lia) with rfl | rfl
   ·exact ⟨"back", "p", by decide, .inl rfl, rfl⟩
   ·exact ⟨"jump", "t", by decide, .inr rfl, rfl⟩
  refine Zak (b3 _ _ npl Zae) ew ?_
  walk_at "rd"
  have bb : BSame b H H3 := (bx.to s2).trans b3
  have hqx3 : H3 q = some (.lst ys) := b3 _ _ nqb (s2 _ _ hqx)
  refine use5 ⟨b, l, wd, ls, boxes, many, sp, xs, sg, rfl, rfl, rfl, rfl, rfl, tab, ⟨b0, by lia⟩, ⟨m0, by lia⟩, bb _ _ nsp hsp, rsg.mono (bb.ts Bg), SG, nsp, B3, fun ps v H4 g4 r4 B4 b4 => ?_⟩
  walk_at "rd"
  have hq4 := b4 _ _ nqb hqx3
  refine ZaV hq4 (Nat.lt_of_le_of_lt (show ys.length <= 1000 by lia) (by decide)) ?_
  walk_at "rd"
  have tw : TSame H4 (upd H4 q (.lst (ys ++ [v]))) := TSame.wr (fun zs z => by rw [hq4] at z; cases z)
  refine k (rs ++ [(wd, ps)]) q (ys ++ [v]) _ ⟨by simp; lia, ?_, ⟨(wd, ps), by simp, hw⟩⟩ hq nqb nql Zae ?_ (B4.wr (Ne.symm nqb) (Ne.symm nql)) ((bb.trans b4).wrNew hq)
  ·intro x hx
   rcases List.mem_append.mp hx with hx | hx
   ·exact ok x hx
   ·obtain rfl := List.mem_singleton.mp hx
    exact ⟨_, g4⟩
  ·rw [List.map_append]
   exact Reps.append ((((rr.mono s2.ts).mono (b3.ts B2)).mono (b4.ts B3)).mono tw) (Zau (r4.mono tw) ZaT)
inductive Pr_signs (x1 x2 : V) (H : Hp) (Q : VK) : Prop
 | mk (b l many) (_ : x1 = .ref b) (_ : x2 = .int many) (_ : 1 <= many /\ many <= 6) (_ : BagAt H b l) (_ : ∀ sg q ys H', SgOk sg -> (sg.length : Int) = many -> H q = none -> q ≠ b -> q ≠ l -> H' q = some (.lst ys) -> Reps H' (sg.map ZgK) ys -> BagAt H' b l -> BSame b H H' -> Q (.ref q) H') : Pr_signs x1 x2 H Q
noncomputable def Zhe : Sp := sp2 (Pr_signs)
theorem sc__law_signs : FnScope ["bag", "many", "signs", "k", "boxes"] ["bag", "many"] (Zag Zbv) := ⟨rfl, rfl, rfl, by decide +kernel, rfl, by decide +kernel, by decide +kernel⟩
theorem Zgx (B : Blt mg) (T__law_signs : TopFn K mg "_law_signs" Zbv ["bag", "many"]) (Zah : Callee P w K mg base "_law_draw" 1 ["bag", "many"] Zcb) : Callee P w K mg base "_law_signs" 2 ["bag", "many"] Zhe := by
 refine T__law_signs.ok2 sc__law_signs fun f cdv A outer s H v1 v2 Q E hr h => ?_
 have nd := sc__law_signs.nd
 obtain ⟨b, l, many, rfl, rfl, ⟨m0, m1⟩, Bg, k⟩ := h
 refine' Zbd [some (.ref b), some (.int many), none, none, none] rfl ?hb ?hg
 case' hb => refine' Zac ?bab ?bac
 case' bab => refine' Zb0 (i := 2) ?bad ?bae ?baf ?bag
 case bad => exact nd
 case bae => exact rfl
 case baf => exact (Or.inl rfl)
 case' bag => refine' Za4 ?bah
 case' bah => refine' ZdF ?bai ?baj
 case' bai => refine' Zcx ?bak
 case' bak => refine' Zai ?bal ?bam
 case bal => exact Zad
 case bam => exact (ZaW (Zam Za7 Zad (ZaG Zah (hr.mono (by first | decide | lia)) (by rfl) (Zaa (pv 0) (Zai Zad Zab)))) Zab)
 case baj => exact Zab
 case' bac => refine' Zac ?ban ?bao
 case' ban => refine' Zb8 ?bap ?baq ?bar ?bas ?bat
 case bap => exact PassesOwn.never
 case baq => exact rfl
 case bar => exact (Zbs rfl B.b_range (ZaW (Zam Zge (pv 1) Zad) Zab))
 case bas => exact (ZaE (i := 3) nd rfl (Or.inl rfl))
 case' bat => refine' Zac ?bau ?bav
 case' bau => refine' Za0 (i := 4) ?baw ?bax ?bay ?baz
 case baw => exact nd
 case bax => exact rfl
 case bay => exact (Or.inl rfl)
 case baz => exact (Zam Za7 Zad (ZaG Zah (hr.mono (by first | decide | lia)) (by rfl) (Zaa (pv 0) (Zai Zad Zab))))
 case' bav => refine' Zaf ?bba
 case' bba => refine' ZbL ?bbb
 case' bbb => refine' k_bm (K := K) ?bbc ?bbd ?bbe ?bbf ?bbg ?bbh ?bbi
 case bbc => exact rfl
 case bbd => exact PySem.F.plainAttrs_list
 case bbe => exact PySem.F.slot_list_append
 case bbf => exact PySem.F.type_list_append
 case bbg => exact Zbb
 case bbh => exact (pv 2)
 case' bbi => refine' ZdF ?bbj ?bbk
 case' bbj => refine' Zcx ?bbl
 case' bbl => refine' ZaJ ?bbm ?bbn
 case' bbm => refine' ZaG ?bbo ?bbp ?bbq ?bbr
 case bbo => exact Zah
 case bbp => exact (hr.mono (by first | decide | lia))
 case bbq => exact (by rfl)
 case' bbr => refine' Zaa ?bbs ?bbt
 case bbs => exact (pv 0)
 case bbt => exact (ZaW (Zam Za7 (Zap (ZjJ rfl) (by rfl) B.b_min bt_min (Zai Zad (Zaa (pv 4) Zab))) Zad) Zab)
 case bbn => exact (Zaa (pv 4) Zab)
 case bbk => exact Zab
 case bao => exact (Zaf (Zas (pv 2)))
 walk_at "rd"
 refine use2 ⟨b, l, 8, rfl, rfl, ⟨by decide, by decide⟩, Bg, fun bx H1 x0 x1 B1 b1 => ?_⟩
 walk_at "rd"
 walk_at "mk"; intro t1 ht1
 have s1 := Same.new (o := .tup [V.int 0, V.int (1 + bx)]) ht1
 walk_at "mk"; intro q hq
 have s2 := Same.new (o := .lst [V.ref t1]) hq
 have B2 := (B1.mono s1).mono s2
 have nqb : q ≠ b := fun z => ((B1.mono s1).ne hq).1 z.symm
 have nql : q ≠ l := fun z => ((B1.mono s1).ne hq).2 z.symm
 have hqH : H q = none := (b1.to s1).free nqb hq
 walk_at "rd"
 refine ZcJ (by lia) (by lia) ?_
 refine Zc9 (n := (many - 1).toNat) (fun i σ Hx => Ex4 fun sg ys x3 x4 => An8 (σ = [some (.ref b), some (.int many), some (.ref q), x3, x4]) (Hx q = some (.lst ys)) (Reps Hx (sg.map ZgK) ys) (sg.length = i + 1) (∃ bx, sg[0]? = some (0, bx)) (∀ q ∈ sg, 0 <= q.1 /\ q.1 <= 4 /\ q.1 <= q.2 /\ 1 <= q.2 /\ q.2 <= 8) (BagAt Hx b l) (BSame b H Hx))
  ⟨[(0, 1 + bx)], [V.ref t1], none, none, rfl, Zae, Zau (ZbY (s2 _ _ Zae) (Zau ZbZ (Zau ZbZ ZaT))) ZaT, rfl, ⟨_, rfl⟩, by intro q hq; obtain rfl := List.mem_singleton.mp hq; dsimp only; lia, B2, (b1.to s1).to s2⟩ ?_ ?_
 ·rintro i σ Hx hi ⟨sg, ys, x3, x4, rfl, hqx, rr, hl, h0, ok, Bx, bx⟩
  have hyl := rr.length
  rw [List.length_map] at hyl
  walk_at "rd"
  refine use2 ⟨b, l, 8, rfl, rfl, ⟨by decide, by decide⟩, Bx, fun bn H3 y0 y1 B3 b3 => ?_⟩
  walk_at "rd"
  have hqx3 : H3 q = some (.lst ys) := b3 _ _ nqb hqx
  refine ⟨.inl ⟨rfl, ys, SqL.of hqx3⟩, ?_⟩
  walk_at "rd"
  generalize hmn : (if 1 + bn < 4 then 1 + bn else 4) = mn
  have hmn2 : 1 <= mn /\ mn <= 4 /\ mn <= 1 + bn := by rw [<- hmn]; split <;> lia
  refine use2 ⟨b, l, mn + 1, rfl, rfl, ⟨by lia, by lia⟩, B3, fun tk H4 z0 z1 B4 b4 => ?_⟩
  walk_at "rd"
  walk_at "mk"; intro t2 ht2
  have s4 := Same.new (o := .tup [V.int tk, V.int (1 + bn)]) ht2
  have hq4 := s4 _ _ (b4 _ _ nqb hqx3)
  walk_at "rd"
  refine ZaV hq4 (Nat.lt_of_le_of_lt (show ys.length <= 1000 by lia) (by decide)) ?_
  walk_at "rd"
  have tw : TSame (upd H4 t2 (.tup [V.int tk, V.int (1 + bn)])) (upd (upd H4 t2 (.tup [V.int tk, V.int (1 + bn)])) q (.lst (ys ++ [V.ref t2]))) := TSame.wr (fun zs z => by rw [hq4] at z; cases z)
  refine ⟨sg ++ [(tk, 1 + bn)], ys ++ [V.ref t2], _, _, rfl, Zae, ?_, by simp [hl], ?_, ?_, (B4.mono s4).wr (Ne.symm nqb) (Ne.symm nql), (((bx.trans b3).trans b4).to s4).wrNew hqH⟩
  ·rw [List.map_append]
   exact Reps.append ((((rr.mono (b3.ts Bx)).mono (b4.ts B3)).mono s4.ts).mono tw) (Zau ((ZbY Zae (Zau ZbZ (Zau ZbZ ZaT)) : Rep _ (ZgK (tk, 1 + bn)) (.ref t2)).mono tw) ZaT)
  ·obtain ⟨bx0, h0⟩ := h0
   exact ⟨bx0, by rw [List.getElem?_append_left (by lia)]; exact h0⟩
  ·intro x hx
   rcases List.mem_append.mp hx with hx | hx
   ·exact ok x hx
   ·obtain rfl := List.mem_singleton.mp hx
    dsimp only
    lia
 ·rintro σ Hx ⟨sg, ys, x3, x4, rfl, hqx, rr, hl, h0, ok, Bx, bx⟩
  walk_at "rd"
  exact k sg q ys _ ⟨by lia, by lia, h0, ok⟩ (by lia) hqH nqb nql hqx rr Bx bx
inductive Pr_program (x1 : V) (H : Hp) (Q : VK) : Prop
 | mk (b l) (_ : x1 = .ref b) (_ : BagAt H b l) (_ : ∀ sg ds q vs H', ProgOk sg ds -> H q = none -> q ≠ b -> q ≠ l -> H' q = some (.lst vs) -> DefsAt [b, q] H' ds vs -> BagAt H' b l -> BSame b H H' -> Q (.ref q) H') : Pr_program x1 H Q
noncomputable def ZhN : Sp := sp1 (Pr_program)
theorem sc__law_program : FnScope ["bag", "big", "many", "signs", "program", "takes", "boxes", "size"] ["bag"] (Zag Zbf) := ⟨rfl, rfl, rfl, by decide +kernel, rfl, by decide +kernel, by decide +kernel⟩
theorem Ze3 (B : Blt mg) (T__law_program : TopFn K mg "_law_program" Zbf ["bag"]) (Zah : Callee P w K mg base "_law_draw" 1 ["bag", "many"] Zcb) (Zdu : Callee P w K mg base "_law_signs" 2 ["bag", "many"] Zhe)
  (Zd2 : Callee P w K mg base "_law_rows" 5 ["bag", "boxes", "many", "signs"] Zik) : Callee P w K mg base "_law_program" 6 ["bag"] ZhN := by
 refine T__law_program.ok1 sc__law_program fun f cdv A outer s H v1 Q E hr h => ?_
 have nd := sc__law_program.nd
 obtain ⟨b, l, rfl, Bg, k⟩ := h
 refine' Zbd [some (.ref b), none, none, none, none, none, none, none] rfl ?hb ?hg
 case' hb => refine' Zac ?bab ?bac
 case bab => exact (Zbx (i := 1) nd rfl (Or.inl rfl) (ZaG Zah (hr.mono (by first | decide | lia)) (by rfl) (Zaa (pv 0) (Zai Zad Zab))))
 case' bac => refine' Zac ?bad ?bae
 case' bad => refine' Za0 (i := 2) ?baf ?bag ?bah ?bai
 case baf => exact nd
 case bag => exact rfl
 case bah => exact (Or.inl rfl)
 case bai => exact (Zam Za7 Zad (ZaG Zah (hr.mono (by first | decide | lia)) (by rfl) (Zaa (pv 0) (Zai Zad Zab))))
 case' bae => refine' Zac ?baj ?bak
 case' baj => refine' ZaL ?bal ?bam ?ban
 case bal => exact (Zal Zba (pv 1) Zad (Zao _))
 case' bam => refine' Zaf ?bao
 case' bao => refine' Za0 (i := 2) ?bap ?baq ?bar ?bas
 case bap => exact nd
 case baq => exact rfl
 case bar => exact (Or.inl rfl)
 case bas => exact (Zam Za7 Zad (ZaG Zah (hr.mono (by first | decide | lia)) (by rfl) (Zaa (pv 0) (Zai Zad Zab))))
 case ban => exact Zaq
 case' bak => refine' Zac ?bat ?bau
 case bat => exact (Zbx (i := 3) nd rfl (Or.inl rfl) (ZaG Zdu (hr.mono (by first | decide | lia)) (by rfl) (Zaa (pv 0) (Zaa (pv 2) Zab))))
 case' bau => refine' Zac ?bav ?baw
 case bav => exact (Zb0 (i := 4) nd rfl (Or.inl rfl) (Za4 Zab))
 case' baw => refine' Zac ?bax ?bay
 case' bax => refine' Zb8 ?baz ?bba ?bbb ?bbc ?bbd
 case baz => exact PassesOwn.never
 case bba => exact rfl
 case bbb => exact (ZbB (K := K) rfl (pv 3))
 case bbc => exact (Zen (K := K) (n := 2) rfl rfl (Zcj (ZaE (i := 5) nd rfl (Or.inl rfl)) (Zcj (ZaE (i := 6) nd rfl (Or.inl rfl)) ZfF)))
 case' bbd => refine' Zac ?bbe ?bbf
 case' bbe => refine' Za0 (i := 7) ?bbg ?bbh ?bbi ?bbj
 case bbg => exact nd
 case bbh => exact rfl
 case bbi => exact (Or.inl rfl)
 case' bbj => refine' Zam ?bbk ?bbl ?bbm
 case bbk => exact Za7
 case bbl => exact (Zam Za7 Zad (ZaG Zah (hr.mono (by first | decide | lia)) (by rfl) (Zaa (pv 0) (Zai Zad Zab))))
 case' bbm => refine' Zam ?bbn ?bbo ?bbp
 case bbn => exact Zde
 case bbo => exact (Zap (Zb9 (K := K) rfl) (by rfl) B.b_len Zbw (Za1 (Zax (k_ix (K := K) rfl) (pv 0) Zad (fun _ _ => rfl)) Zab))
 case bbp => exact Zad
 case' bbf => refine' Zac ?bbq ?bbr
 case' bbq => refine' ZaL ?bbs ?bbt ?bbu
 case' bbs => refine' PW.pt ?bbv
 case' bbv => refine' ZfD ?bbw ?bbx
 case bbw => exact (Zal Zba (pv 1) Zad (Zao _))
 case' bbx => refine' Zea ?bby
 case' bby => refine' PW.pt ?bbz
 case' bbz => refine' ZdD ?bca ?bcb
 case bca => exact (Zal Zba (pv 1) Zad (Zao _))
 case' bcb => refine' ZcP ?bcc
 case bcc => exact (Zal Zba (ZaG Zah (hr.mono (by first | decide | lia)) (by rfl) (Zaa (pv 0) (Zai Zad Zab))) Zad (Zao _))
 case' bbt => refine' Zaf ?bcd
 case' bcd => refine' Za0 (i := 7) ?bce ?bcf ?bcg ?bch
 case bce => exact nd
 case bcf => exact rfl
 case bcg => exact (Or.inl rfl)
 case bch => exact (Zam Za7 Zad (ZaG Zah (hr.mono (by first | decide | lia)) (by rfl) (Zaa (pv 0) (Zai Zad Zab))))
 case bbu => exact Zaq
 case' bbr => refine' Zaf ?bci
 case' bci => refine' ZbL ?bcj
 case' bcj => refine' k_bm (K := K) ?bck ?bcl ?bcm ?bcn ?bco ?bcp ?bcq
 case bck => exact rfl
 case bcl => exact PySem.F.plainAttrs_list
 case bcm => exact PySem.F.slot_list_append
 case bcn => exact PySem.F.type_list_append
 case bco => exact Zbb
 case bcp => exact (pv 4)
 case' bcq => refine' ZdF ?bcr ?bcs
 case' bcr => refine' Zcx ?bct
 case' bct => refine' Zaa ?bcu ?bcv
 case bcu => exact (pv 5)
 case' bcv => refine' Zaa ?bcw ?bcx
 case bcw => exact (pv 6)
 case' bcx => refine' ZaJ ?bcy ?bcz
 case bcy => exact (ZaG Zd2 (hr.mono (by first | decide | lia)) (by rfl) (Zaa (pv 0) (Zaa (pv 6) (Zaa (pv 7) (Zaa (pv 3) Zab)))))
 case bcz => exact Zab
 case bcs => exact Zab
 case bay => exact (Zaf (Zas (pv 4)))
 walk_at "rd"
 refine use2 ⟨b, l, 8, rfl, rfl, ⟨by decide, by decide⟩, Bg, fun big H1 g0 g1 B1 b1 => ?_⟩
 walk_at "rd"
 refine use2 ⟨b, l, 3, rfl, rfl, ⟨by decide, by decide⟩, B1, fun m3 H2 h0 h1 B2 b2 => ?_⟩
 refine ZfC (ZcO ?_)
 try dsimp +zetaDelta only
 refine ZeA (fun σ Hx => ∃ many, An5 (σ = [some (.ref b), some (.int big), some (.int many), none, none, none, none, none]) (1 <= many) (many <= 6) (BagAt Hx b l) (BSame b H Hx)) ?rest ?two
 case two =>
  intro N hN
  walk_at "rd"
  refine ZaH (fun _ => ?_) (fun _ => ?_)
  ·walk_at "rd"
   refine use2 ⟨b, l, 6, rfl, rfl, ⟨by decide, by decide⟩, B2, fun m6 H3 i0 i1 B3 b3 => ?_⟩
   walk_at "rd"
   exact hN _ _ ⟨1 + m6, rfl, by lia, by lia, B3, (b1.trans b2).trans b3⟩
  ·walk_at "rd"
   exact hN _ _ ⟨1 + m3, rfl, by lia, by lia, B2, b1.trans b2⟩
 case rest =>
  rintro σ Hx ⟨many, rfl, m0, m1, Bx, bx⟩
  walk_at "rd"
  refine use2 ⟨b, l, many, rfl, rfl, ⟨m0, m1⟩, Bx, fun sg sq ys H3 SG sgl hsq nsb nsl hs3 r3 B3 b3 => ?_⟩
  walk_at "rd"
  walk_at "mk"; intro q hq
  have s3 := Same.new (o := .lst []) hq
  have nqb : q ≠ b := fun z => (B3.ne hq).1 z.symm
  have nql : q ≠ l := fun z => (B3.ne hq).2 z.symm
  have bb3 : BSame b H H3 := bx.trans b3
  have hqH : H q = none := bb3.free nqb hq
  have nsq : sq ≠ q := Zbn hs3 hq
  have hsl := r3.length
  rw [List.length_map] at hsl
  walk_at "rd"
  refine ZcZ (SqL.of (s3 _ _ hs3)) ?_
  refine Zdg (xs := ys) (fun i σ Hy => Ex5 fun ds vs x5 x6 x7 => An9 (σ = [some (.ref b), some (.int big), some (.int many), some (.ref sq), some (.ref q), x5, x6, x7]) (Hy q = some (.lst vs)) (DefsAt [b, q] Hy ds vs) (Hy sq = some (.lst ys)) (Reps Hy (sg.map ZgK) ys) (ds.map (fun d => (d.1, d.2.1)) = sg.take i) (∀ d ∈ ds, ∃ many, 1 <= many /\ many <= 30 /\ RowsOk sg d.2.1 many d.2.2) (BagAt Hy b l) (BSame b H Hy))
   ⟨[], [], none, none, none, rfl, Zae, rfl, s3 _ _ hs3, r3.mono s3.ts, rfl, by simp, B3.mono s3, bb3.to s3⟩ (fun i σ Hy _ z_ => by obtain ⟨_, _, _, _, _, _, _, _, e, _⟩ := z_; exact SqL.of e) ?_ ?_
  ·rintro i x σ Hy hx ⟨ds, vs, x5, x6, x7, rfl, hqy, da, hsy, ry, hm, ok, By, bY⟩
   obtain ⟨d, ed, rd⟩ := ry.get' hx
   rw [List.getElem?_map] at ed
   obtain ⟨p, ep, rfl⟩ := Option.map_eq_some_iff.mp ed
   have pok := SG.all p (List.mem_of_getElem? ep)
   obtain ⟨tp, zs, rfl, htp, rz⟩ := Zbi rd
   obtain ⟨u1, r1, rfl, e1, rz⟩ := ZaK rz
   obtain ⟨u2, r2, rfl, e2, rz⟩ := ZaK rz
   obtain rfl := ZbS rz
   obtain rfl := Zbr e1
   obtain rfl := Zbr e2
   refine ZeC htp rfl ?_
   walk_at "rd"
   refine use2 ⟨b, l, 5, rfl, rfl, ⟨by decide, by decide⟩, By, fun z H4 z0 z1 B4 b4 => ?_⟩
   obtain ⟨cs, ci, cm, cst, cc, hb4, hl4, _, _, _, _, hcs⟩ := B4.ex
   walk_at "rd"
   refine Zak (v := .ref l) hb4 rfl ?_
   walk_at "rd"
   refine Zbk (SqL.of hl4) ?_
   walk_at "rd"
   refine rd_I (Zdi (by decide) (by decide +kernel)) ?_
   rw [List.length_map]
   refine ZfC (ZcO ?_)
   have hdl := da.length
   try dsimp +zetaDelta only
   refine ZeA (fun σ Hz => ∃ size, An5 (σ = [some (.ref b), some (.int big), some (.int many), some (.ref sq), some (.ref q), some (.int p.1), some (.int p.2), some (.int size)]) (1 <= size) (size <= 30) (BagAt Hz b l) (BSame b Hy Hz)) ?rest2 ?two2
   case two2 =>
    intro N hN
    have one : ∀ Hw, BagAt Hw b l -> BSame b Hy Hw -> N [some (.ref b), some (.int big), some (.int many), some (.ref sq), some (.ref q), some (.int p.1), some (.int p.2), some (.int (1 + z + (cs.length : Int) / 8))] Hw := fun Hw Bw bw => hN _ _ ⟨_, rfl, by lia, by lia, Bw, bw⟩
    walk_at "rd"
    refine ZaH (fun _ => ?_) (fun _ => ?_)
    ·walk_at "rd"
     refine use2 ⟨b, l, 30, rfl, rfl, ⟨by decide, by decide⟩, B4, fun t H5 t0 t1 B5 b5 => ?_⟩
     walk_at "rd"
     exact hN _ _ ⟨1 + t, rfl, by lia, by lia, B5, b4.trans b5⟩
    ·walk_at "rd"
     refine ZaH (fun _ => ?_) (fun _ => ?_)
     ·walk_at "rd"
      refine use2 ⟨b, l, 4, rfl, rfl, ⟨by decide, by decide⟩, B4, fun u H5 u0 u1 B5 b5 => ?_⟩
      walk_at "rd"
      refine ZaH (fun _ => ?_) (fun _ => ?_)
      ·walk_at "rd"
       refine use2 ⟨b, l, 30, rfl, rfl, ⟨by decide, by decide⟩, B5, fun t H6 t0 t1 B6 b6 => ?_⟩
       walk_at "rd"
       exact hN _ _ ⟨1 + t, rfl, by lia, by lia, B6, (b4.trans b5).trans b6⟩
      ·walk_at "rd"
       exact one _ B5 (b4.trans b5)
     ·walk_at "rd"
      exact one _ B4 b4
   case rest2 =>
    rintro σ Hz ⟨size, rfl, y0, y1, Bz, bz⟩
    have hqz := bz _ _ nqb hqy
    walk_at "rd"
    refine ⟨.inl ⟨rfl, vs, SqL.of hqz⟩, ?_⟩
    walk_at "rd"
    refine use4 ⟨b, l, p.2, size, sq, ys, sg, rfl, rfl, rfl, rfl, ⟨by lia, by lia⟩, ⟨y0, y1⟩, bz _ _ nsb hsy, ry.mono (bz.ts By), SG, nsb, Bz, fun rs rq zs H5 R5 hrq nrb nrl h5 rr5 B5 b5 => ?_⟩
    walk_at "rd"
    walk_at "mk"; intro t5 ht5
    have s5 := Same.new (o := .tup [V.int p.1, V.int p.2, V.ref rq]) ht5
    have hq5 := s5 _ _ (b5 _ _ nqb hqz)
    walk_at "rd"
    refine ZaV hq5 (Nat.lt_of_le_of_lt (show vs.length <= 1000 by have := congrArg List.length hm; simp at this; have := SG.few; lia) (by decide)) ?_
    walk_at "rd"
    have nrq : rq ≠ q := fun e => by rw [e, hqz] at hrq; cases hrq
    have d5 : DefsAt [b, q] _ ds vs := ((((da.bs bz By (by simp)).bs b5 Bz (by simp)).mono s5).wr (o := .lst (vs ++ [V.ref t5])) (by simp) hq5)
    have tw : TSame (upd H5 t5 (.tup [V.int p.1, V.int p.2, V.ref rq])) (upd (upd H5 t5 (.tup [V.int p.1, V.int p.2, V.ref rq])) q (.lst (vs ++ [V.ref t5]))) := TSame.wr (fun zs z => by rw [hq5] at z; cases z)
    have nsq5 : sq ≠ q := nsq
    refine ⟨ds ++ [(p.1, p.2, rs)], vs ++ [V.ref t5], _, _, _, rfl, Zae, d5.append ⟨_, _, rfl, ⟨t5, rq, zs, rfl, tw _ _ Zae, ?_, ?_, (rr5.mono s5.ts).mono tw⟩, rfl⟩, ?_, ?_, ?_, ?_, ?_, ?_⟩
    ·rw [Zaw nrq]
     exact s5 _ _ h5
    ·simp only [List.mem_cons, List.not_mem_nil, or_false, not_or]
     exact ⟨nrb, nrq⟩
    ·rw [Zaw nsq5]
     exact s5 _ _ (b5 _ _ nsb (bz _ _ nsb hsy))
    ·exact (((ry.mono (bz.ts By)).mono (b5.ts Bz)).mono s5.ts).mono tw
    ·rw [List.map_append, hm, List.take_add_one, ep]
     rfl
    ·intro d hd
     rcases List.mem_append.mp hd with hd | hd
     ·exact ok d hd
     ·obtain rfl := List.mem_singleton.mp hd
      exact ⟨size, y0, y1, R5⟩
    ·exact (B5.mono s5).wr (Ne.symm nqb) (Ne.symm nql)
    ·exact (((bY.trans bz).trans b5).to s5).wrNew hqH
  ·rintro σ Hy ⟨ds, vs, x5, x6, x7, rfl, hqy, da, hsy, ry, hm, ok, By, bY⟩
   walk_at "rd"
   rw [<- hsl, List.take_length] at hm
   exact k sg ds q vs _ ⟨SG, hm, ok⟩ hqH nqb nql hqy da By bY
noncomputable def Zfl (H : Hp) : Nat -> V -> V -> Prop
 | 0, _, _ => False
 | n + 1, x, y => (x = y /\ (x = .non \/ (∃ i, x = .int i) \/ ∃ z, x = .str z)) \/ ∃ a b xs ys, x = .ref a /\ y = .ref b /\ ((H a = some (.lst xs) /\ H b = some (.lst ys)) \/ (H a = some (.tup xs) /\ H b = some (.tup ys))) /\ xs.length = ys.length /\ xs.length <= 1000000 /\ ∀ (i : Nat) u v, xs[i]? = some u -> ys[i]? = some v -> Zfl H n u v
noncomputable def spAl (n : Nat) : Sp := sp2 fun x y H Q => Zfl H n x y /\ Q (.bl true) H
theorem sc__law_alike : FnScope ["found", "due", "k"] ["found", "due"] (Zag Zbq) := ⟨rfl, rfl, rfl, by decide +kernel, rfl, by decide +kernel, by decide +kernel⟩
theorem al_0 (T__law_alike : TopFn K mg "_law_alike" Zbq ["found", "due"]) : Callee P w K mg base "_law_alike" 1 ["found", "due"] (spAl 0) :=
 T__law_alike.ok2 sc__law_alike fun f cdv A outer s H v1 v2 Q E hr h => h.1.elim
theorem Zd1 {n lev : Nat} (B : Blt mg) (T__law_alike : TopFn K mg "_law_alike" Zbq ["found", "due"]) (ZcX : Callee P w K mg base "_law_alike" lev ["found", "due"] (spAl n)) : Callee P w K mg base "_law_alike" (lev + 1) ["found", "due"] (spAl (n + 1)) := by
 refine T__law_alike.ok2 sc__law_alike fun f cdv A outer s H v1 v2 Q E hr h => ?_
 have nd := sc__law_alike.nd
 obtain ⟨h, k⟩ := h
 refine' Zbd [some v1, some v2, none] rfl ?hb ?hg
 case' hb => refine' Zac ?bab ?bac
 case bab => exact (ZaL (Zal ZeI (pv 1) ZbW (Zao _)) (Zaf (Zas (ZcS ZeI (pv 0) ZbW (Zao _)))) Zaq)
 case' bac => refine' Zac ?bad ?bae
 case' bad => refine' ZaL ?baf ?bag ?bah
 case' baf => refine' ZcE ?bai
 case' bai => refine' Zap ?baj ?bak ?bal ?bam ?ban
 case baj => exact ZbV
 case bak => exact (by rfl)
 case bal => exact B.b_isinstance
 case bam => exact ZaD
 case ban => exact (Zaa (pv 1) (Zaa (Zcd (v := .ty "bool") (by rfl) B.b_bool Zg0 rfl) Zab))
 case' bag => refine' Zaf ?bao
 case' bao => refine' Zas ?bap
 case' bap => refine' Zho ?baq ?bar
 case' baq => refine' Zap ?bas ?bat ?bau ?bav ?baw
 case bas => exact ZbV
 case bat => exact (by rfl)
 case bau => exact B.b_isinstance
 case bav => exact ZaD
 case baw => exact (Zaa (pv 0) (Zaa (Zcd (v := .ty "bool") (by rfl) B.b_bool Zg0 rfl) Zab))
 case bar => exact (Zhm (ZcS Zba (pv 0) (pv 1) (Zao _)))
 case bah => exact Zaq
 case' bae => refine' Zac ?bax ?bay
 case' bax => refine' ZaL ?baz ?bba ?bbb
 case' baz => refine' ZcE ?bbc
 case bbc => exact (Zap ZbV (by rfl) B.b_isinstance ZaD (Zaa (pv 1) (Zaa (Zcd (v := .ty "int") (by rfl) B.b_int ZeZ rfl) Zab)))
 case' bba => refine' Zaf ?bbd
 case' bbd => refine' Zas ?bbe
 case' bbe => refine' Zho ?bbf ?bbg
 case bbf => exact (Zap ZbV (by rfl) B.b_isinstance ZaD (Zaa (pv 0) (Zaa (Zcd (v := .ty "int") (by rfl) B.b_int ZeZ rfl) Zab)))
 case' bbg => refine' Zho ?bbh ?bbi
 case' bbh => refine' pe_not ?bbj
 case' bbj => refine' Zap ?bbk ?bbl ?bbm ?bbn ?bbo
 case bbk => exact ZbV
 case bbl => exact (by rfl)
 case bbm => exact B.b_isinstance
 case bbn => exact ZaD
 case bbo => exact (Zaa (pv 0) (Zaa (Zcd (v := .ty "bool") (by rfl) B.b_bool Zg0 rfl) Zab))
 case bbi => exact (Zhm (ZcS Zba (pv 0) (pv 1) (Zao _)))
 case bbb => exact Zaq
 case' bay => refine' Zac ?bbp ?bbq
 case' bbp => refine' ZaL ?bbr ?bbs ?bbt
 case' bbr => refine' ZcE ?bbu
 case bbu => exact (Zap ZbV (by rfl) B.b_isinstance ZaD (Zaa (pv 1) (Zaa (Zcd (v := .ty "str") (by rfl) B.b_str ZeY rfl) Zab)))
 case' bbs => refine' Zaf ?bbv
 case' bbv => refine' Zas ?bbw
 case' bbw => refine' Zho ?bbx ?bby
 case bbx => exact (Zap ZbV (by rfl) B.b_isinstance ZaD (Zaa (pv 0) (Zaa (Zcd (v := .ty "str") (by rfl) B.b_str ZeY rfl) Zab)))
 case bby => exact (Zhm (ZcS Zba (pv 0) (pv 1) (Zao _)))
 case bbt => exact Zaq
 case' bbq => refine' Zac ?bbz ?bca
 case' bbz => refine' ZaL ?bcb ?bcc ?bcd
 case' bcb => refine' ZcE ?bce
 case' bce => refine' Zap ?bcf ?bcg ?bch ?bci ?bcj
 case bcf => exact ZbV
 case bcg => exact (by rfl)
 case bch => exact B.b_isinstance
 case bci => exact ZaD
 case bcj => exact (Zaa (pv 1) (Zaa (Zcd (v := .ty "tuple") (by rfl) B.b_tuple Zb5 rfl) Zab))
 case' bcc => refine' Zaf ?bck
 case' bck => refine' ZaL ?bcl ?bcm ?bcn
 case' bcl => refine' Zfb ?bco
 case' bco => refine' ZcE ?bcp
 case' bcp => refine' Zap ?bcq ?bcr ?bcs ?bct ?bcu
 case bcq => exact ZbV
 case bcr => exact (by rfl)
 case bcs => exact B.b_isinstance
 case bct => exact ZaD
 case bcu => exact (Zaa (pv 0) (Zaa (Zcd (v := .ty "tuple") (by rfl) B.b_tuple Zb5 rfl) Zab))
 case bcm => exact (Zaf (Zas Zeg))
 case bcn => exact Zaq
 case' bcd => refine' Zaf ?bcv
 case' bcv => refine' ZaL ?bcw ?bcx ?bcy
 case' bcw => refine' Zfb ?bcz
 case' bcz => refine' ZcE ?bda
 case' bda => refine' Zap ?bdb ?bdc ?bdd ?bde ?bdf
 case bdb => exact ZbV
 case bdc => exact (by rfl)
 case bdd => exact B.b_isinstance
 case bde => exact ZaD
 case bdf => exact (Zaa (pv 0) (Zaa (Zcd (v := .ty "list") (by rfl) B.b_list ZfX rfl) Zab))
 case bcx => exact (Zaf (Zas Zeg))
 case bcy => exact Zaq
 case' bca => refine' Zac ?bdg ?bdh
 case' bdg => refine' ZaL ?bdi ?bdj ?bdk
 case' bdi => refine' Zal ?bdl ?bdm ?bdn ?bdo
 case bdl => exact ZhR
 case bdm => exact (Zap (Zb9 (K := K) rfl) (by rfl) B.b_len Zbw (Zaa (pv 0) Zab))
 case bdn => exact (Zap (Zb9 (K := K) rfl) (by rfl) B.b_len Zbw (Zaa (pv 1) Zab))
 case bdo => exact (Zao _)
 case bdj => exact (Zaf (Zas Zeg))
 case bdk => exact Zaq
 case' bdh => refine' Zac ?bdp ?bdq
 case' bdp => refine' Zb8 ?bdr ?bds ?bdt ?bdu ?bdv
 case bdr => exact PassesOwn.never
 case bds => exact rfl
 case bdt => exact (Zbs rfl B.b_range (ZaJ (Zap (Zb9 (K := K) rfl) (by rfl) B.b_len Zbw (Zaa (pv 1) Zab)) Zab))
 case bdu => exact (ZaE (i := 2) nd rfl (Or.inl rfl))
 case' bdv => refine' Zaf ?bdw
 case' bdw => refine' ZaL ?bdx ?bdy ?bdz
 case' bdx => refine' Zfb ?bea
 case' bea => refine' ZcE ?beb
 case' beb => refine' ZaG ?bec ?bed ?bee ?bef
 case bec => exact ZcX
 case bed => exact (hr.mono (by first | decide | lia))
 case bee => exact (by rfl)
 case bef => exact (Za1 (Zax (k_ix (K := K) rfl) (pv 0) (pv 2) (fun _ _ => rfl)) (Za1 (Zax (k_ix (K := K) rfl) (pv 1) (pv 2) (fun _ _ => rfl)) Zab))
 case bdy => exact (Zaf (Zas Zeg))
 case bdz => exact Zaq
 case bdq => exact (Zaf (Zas Zeg))
 have seq : ∀ (p q : Addr) (xs ys : List V), v1 = .ref p -> v2 = .ref q -> xs.length = ys.length -> xs.length <= 1000000 -> (∀ (i : Nat) u v, xs[i]? = some u -> ys[i]? = some v -> Zfl H n u v) ->
   (∀ (Q : VK) i v, xs[i]? = some v -> Q v H -> rIxA K (.ref p) (.int (i : Nat)) H Q) -> (∀ (Q : VK) i v, ys[i]? = some v -> Q v H -> rIxA K (.ref q) (.int (i : Nat)) H Q) -> (∀ Q : VK, Q (.int xs.length) H -> rLen K [.ref p] H Q) -> (∀ Q : VK, Q (.int xs.length) H -> rLen K [.ref q] H Q) ->
   tSeq (tIfS (ZgF (tOp rNe (tCB (rLen K) (Zb6 (tVar 0) tNil)) (tCB (rLen K) (Zb6 (tVar 1) tNil)))) (tRet (tC (.bl false))) Zj4)
    (tSeq (tFor (ZmE (Zb6 (tCB (rLen K) (Zb6 (tVar 1) tNil)) tNil)) (Zdl 2) (tIfS (tNot (tB (Zer (spAl n) [] E0 (Zb6 (tOp (rIxA K) (tVar 0) (tVar 2)) (Zb6 (tOp (rIxA K) (tVar 1) (tVar 2)) tNil))))) (tRet (tC (.bl false))) Zj4)) (tRet (tC (.bl true))))
    { nx := fun _ H' => Q .non H', rt := Q } [some v1, some v2, none] H := by
  intro p q xs ys e1 e2 el hl hd ix iy lx ly
  subst e1; subst e2
  walk_at "rd"
  refine lx _ ?_
  walk_at "rd"
  refine ly _ ?_
  walk_at "rd"
  refine iteNS rfl ?_
  walk_at "rd"
  refine ly _ ?_
  walk_at "rd"
  refine ZcJ (by lia) (by lia) ?_
  refine Zc9 (n := (xs.length : Int).toNat) (fun i σ Hx => (∃ x2, σ = [some (.ref p), some (.ref q), x2]) /\ Hx = H) ⟨⟨none, rfl⟩, rfl⟩ ?_ ?_
  ·rintro i σ Hx hi ⟨⟨x2, rfl⟩, rfl⟩
   have hi' : i < xs.length := by lia
   have eu := List.getElem?_eq_getElem hi'
   have ev := List.getElem?_eq_getElem (el ▸ hi' : i < ys.length)
   rw [show (0 : Int) + (i : Int) = (i : Int) by lia]
   walk_at "rd"
   refine ix _ i _ eu ?_
   walk_at "rd"
   refine iy _ i _ ev ?_
   walk_at "rd"
   refine use2 ⟨hd i _ _ eu ev, ?_⟩
   walk_at "rd"
   exact ⟨⟨_, rfl⟩, rfl⟩
  ·rintro σ Hx ⟨⟨x2, rfl⟩, rfl⟩
   walk_at "rd"
   exact k
 rcases h with ⟨rfl, rfl | ⟨i, rfl⟩ | ⟨z, rfl⟩⟩ | ⟨a, b, xs, ys, rfl, rfl, h, el, hl, hd⟩
 ·walk_at "rd"
  refine Zfh rfl ?_
  walk_at "rd"
  exact k
 ·walk_at "rd"
  refine ZdI (by intro z; cases z) ?_
  walk_at "rd"
  refine ZbT rfl (by simp) (Zci (iteF ?_))
  walk_at "rd"
  refine ZbT rfl (by simp) (Zci (iteT ?_))
  walk_at "rd"
  refine ZbT rfl (by simp) (Zci (iteT ?_))
  walk_at "rd"
  refine ZbT rfl (by simp) (Zci (Zci (iteT ?_)))
  walk_at "rd"
  rw [decide_eq_true rfl]
  exact k
 ·walk_at "rd"
  refine ZdI (by intro z; cases z) ?_
  walk_at "rd"
  refine ZbT rfl (by simp) (Zci (iteF ?_))
  walk_at "rd"
  refine ZbT rfl (by simp) (Zci (iteF ?_))
  walk_at "rd"
  refine ZbT rfl (by simp) (Zci (iteT ?_))
  walk_at "rd"
  refine ZbT rfl (by simp) (Zci (iteT ?_))
  walk_at "rd"
  rw [decide_eq_true rfl]
  exact k
 ·rcases h with ⟨h1, h2⟩ | ⟨h1, h2⟩
  ·have t1 := Zid h1
   have t2 := Zid h2
   walk_at "rd"
   refine ZdI (by intro z; cases z) ?_
   walk_at "rd"
   refine ZbT t2 (by simp) (Zci (iteF ?_))
   walk_at "rd"
   refine ZbT t2 (by simp) (Zci (iteF ?_))
   walk_at "rd"
   refine ZbT t2 (by simp) (Zci (iteF ?_))
   walk_at "rd"
   refine ZbT t2 (by simp) (Zci (iteF ?_))
   walk_at "rd"
   refine ZbT t1 (by simp) (Zci (ZmC ?_))
   refine Zfw ?_
   exact seq a b xs ys rfl rfl el hl hd (fun Q i v e k => Zak h1 (Zar rfl e) k) (fun Q i v e k => Zak h2 (Zar rfl e) k) (fun Q k => Zbk (SqL.of h1) k) (fun Q k => Zbk (SqL.of h2) (by rw [<- el]; exact k))
  ·have t1 : tyN H (.ref a) = some "tuple" := by simp [tyN, h1]
   have t2 : tyN H (.ref b) = some "tuple" := by simp [tyN, h2]
   walk_at "rd"
   refine ZdI (by intro z; cases z) ?_
   walk_at "rd"
   refine ZbT t2 (by simp) (Zci (iteF ?_))
   walk_at "rd"
   refine ZbT t2 (by simp) (Zci (iteF ?_))
   walk_at "rd"
   refine ZbT t2 (by simp) (Zci (iteF ?_))
   walk_at "rd"
   refine ZbT t2 (by simp) (Zci (iteT ?_))
   walk_at "rd"
   refine ZbT t1 (by simp) (Zci (ZmC ?_))
   refine Zfw ?_
   exact seq a b xs ys rfl rfl el hl hd (fun Q i v e k => Zdo h1 (Zar rfl e) k) (fun Q i v e k => Zdo h2 (Zar rfl e) k) (fun Q k => Zfz (SqT.of h1) k) (fun Q k => Zfz (SqT.of h2) (by rw [<- el]; exact k))
theorem ZmW {H : Hp} {d : D} {x y : V} (h : Ze5 1 d) (r1 : Rep H d x) (r2 : Rep H d y) : Zfl H 2 x y := by
  cases d with
  | non => simp [Ze5] at h
  | bl _ => simp [Ze5] at h
  | str _ => simp [Ze5] at h
  | int n => obtain rfl := Zbr r1; obtain rfl := Zbr r2; exact .inl ⟨rfl, .inr (.inl ⟨n, rfl⟩)⟩
  | tup ds =>
    obtain ⟨hl, hd⟩ := h
    obtain ⟨a, xs, rfl, ha, rx⟩ := Zbi r1
    obtain ⟨b, ys, rfl, hb, ry⟩ := Zbi r2
    refine .inr ⟨a, b, xs, ys, rfl, rfl, .inr ⟨ha, hb⟩, rx.length.symm.trans ry.length, by rw [<- rx.length]; exact hl, fun i u v eu ev => ?_⟩
    obtain ⟨d, e1, q1⟩ := rx.get' eu
    obtain ⟨d', e2, q2⟩ := ry.get' ev
    rw [e1] at e2
    cases e2
    obtain ⟨n, rfl⟩ := hd d (List.mem_of_getElem? e1)
    obtain rfl := Zbr q1
    obtain rfl := Zbr q2
    exact .inl ⟨rfl, .inr (.inl ⟨n, rfl⟩)⟩
theorem al_row {H : Hp} {r : Str × List D} {x y : V} (h : ∀ d ∈ r.2, Ze5 1 d) (hl : r.2.length < 1000000) (r1 : Rep H (rowD r) x) (r2 : Rep H (rowD r) y) : Zfl H 3 x y := by
  obtain ⟨a, xs, rfl, ha, rx⟩ := Zbi (show Rep H (.tup (.str r.1 :: r.2)) x from r1)
  obtain ⟨b, ys, rfl, hb, ry⟩ := Zbi (show Rep H (.tup (.str r.1 :: r.2)) y from r2)
  refine .inr ⟨a, b, xs, ys, rfl, rfl, .inr ⟨ha, hb⟩, rx.length.symm.trans ry.length, by rw [<- rx.length]; simp; lia, fun i u v eu ev => ?_⟩
  obtain ⟨d, e1, q1⟩ := rx.get' eu
  obtain ⟨d', e2, q2⟩ := ry.get' ev
  rw [e1] at e2
  cases e2
  cases i with
  | zero =>
    simp at e1
    subst e1
    rw [Rep] at q1 q2
    subst q1; subst q2
    exact .inl ⟨rfl, .inr (.inr ⟨_, rfl⟩)⟩
  | succ i =>
    exact ZmW (h d (List.mem_of_getElem? (by simpa using e1))) q1 q2
theorem ZjS {H : Hp} {ds : List PDef} {p q : Addr} {vs ws : List V} (h1 : H p = some (.lst vs)) (h2 : H q = some (.lst ws)) (D1 : DefsAt [] H ds vs) (D2 : DefsAt [] H ds ws) (PD : PgD ds) (hr : ∀ d ∈ ds, ∀ r ∈ d.2.2, r.2.length < 1000000) : Zfl H 6 (.ref p) (.ref q) := by
  refine .inr ⟨p, q, vs, ws, rfl, rfl, .inl ⟨h1, h2⟩, D1.length.symm.trans D2.length, by rw [<- D1.length]; exact PD.len, fun i u v eu ev => ?_⟩
  obtain ⟨d, e1, t1, q1, ys1, rfl, a1, b1, _, r1⟩ := D1.get eu
  obtain ⟨d', e2, t2, q2, ys2, rfl, a2, b2, _, r2⟩ := D2.get ev
  rw [e1] at e2
  cases e2
  have hm := List.mem_of_getElem? e1
  refine .inr ⟨t1, t2, _, _, rfl, rfl, .inr ⟨a1, a2⟩, rfl, by simp, fun j u v eu ev => ?_⟩
  match j, eu, ev with
  | 0, eu, ev => simp at eu ev; subst eu; subst ev; exact .inl ⟨rfl, .inr (.inl ⟨_, rfl⟩)⟩
  | 1, eu, ev => simp at eu ev; subst eu; subst ev; exact .inl ⟨rfl, .inr (.inl ⟨_, rfl⟩)⟩
  | 2, eu, ev =>
    simp at eu ev
    subst eu; subst ev
    have l1 := r1.length
    have l2 := r2.length
    rw [List.length_map] at l1 l2
    refine .inr ⟨q1, q2, ys1, ys2, rfl, rfl, .inl ⟨b1, b2⟩, by lia, by have := PD.rows d hm; lia, fun i u v eu ev => ?_⟩
    obtain ⟨x1, f1, g1⟩ := r1.get' eu
    obtain ⟨x2, f2, g2⟩ := r2.get' ev
    rw [f1] at f2
    cases f2
    rw [List.getElem?_map] at f1
    obtain ⟨r, er, rfl⟩ := Option.map_eq_some_iff.mp f1
    have hmr := List.mem_of_getElem? er
    exact al_row (PD.part d hm r hmr).2 (hr d hm r hmr) g1 g2
  | j + 3, eu, ev => simp at eu
theorem ZkH {c : TT} {ta tb : TE} {σ : St} {H : Hp} {Q : VK} (I : V -> Prop) (hI : ∀ v, I v -> Q v H) (h : ∀ N : VK, (∀ v, I v -> N v H) -> tIf c ta tb σ H N) : tIf c ta tb σ H Q := h Q hI
theorem Za8 {n : Nat} (h : n <= 1000000) : n <= PySem.sizeLine := by rw [PySem.sizeLine_eq]; lia
theorem Zdc {H : Hp} {x : Str} {Q : VK} (h : x.length <= PySem.sizeLine) (q : Q (.int x.length) H) : rLen K [.str x] H Q := ⟨_, _, rfl, ⟨h, rfl⟩, q⟩
inductive Pr_read_whole (C : Addr) (x y : V) (H : Hp) (Q : VK) (E : XK) : Prop
 | mk (z most) (_ : x = .str z) (_ : y = .int (most : Nat)) (_ : most <= 600) (_ : z.length <= 900000) (_ : Zbl z) (_ : ∀ n H', ZaM most z = some n -> Same H H' -> Q (.int n) H') (_ : ∀ H', ZaM most z = none -> Same H H' -> E (.ref C) none H') : Pr_read_whole C x y H Q E
noncomputable def Zdx (C : Addr) : Sp := spX2 (Pr_read_whole C)
theorem sc_read_whole : FnScope ["text", "most", "figures"] ["text", "most"] (Zag Zbt) := ⟨rfl, rfl, rfl, by decide +kernel, rfl, by decide +kernel, by decide +kernel⟩
theorem Zgv {Zaj ZaA Zav ZaX : Addr} (B : Blt mg) (G : Glb K w mg) (HX : ExH K mg Zaj ZaA Zav ZaX) (T_read_whole : TopFn K mg "read_whole" Zbt ["text", "most"]) : CalleeX P w K mg base Zaj "read_whole" 1 ["text", "most"] (Zdx Zaj) := by
  refine T_read_whole.okX2 sc_read_whole fun f cdv A outer s H v1 v2 Q E hr h => ?_
  have nd := sc_read_whole.nd
  obtain ⟨z, most, rfl, rfl, hm, hz, az, k, no⟩ := h
  have hl := ZaO z
  refine' ZdJ [some (.str z), some (.int (most : Nat)), none] rfl ?hb ?hg
  case' hb => refine' Zac ?bab ?bac
  case' bab => refine' Zcw (i := 2) ?bad ?bae ?baf ?bag
  case bad => exact nd
  case bae => exact rfl
  case baf => exact (Or.inl rfl)
  case' bag => refine' Zhn ?bah ?bai ?baj
  case bah => exact (ZcE (k_bm (K := K) rfl PySem.F.plainAttrs_str PySem.F.slot_str_startswith PySem.F.type_str_startswith Zi9 (pv 0) (Zai Zan Zab)))
  case bai => exact (Zat ZcY (pv 0) (ZaB Zad) ZaC)
  case baj => exact (pv 0)
  case' bac => refine' Zac ?bak ?bal
  case' bak => refine' ZaL ?bam ?ban ?bao
  case' bam => refine' Zfb ?bap
  case' bap => refine' PW.pt ?baq
  case' baq => refine' ZdD ?bar ?bas
  case bar => exact (Zkp op_le op_le Zad (Zap (Zb9 (K := K) rfl) (by rfl) B.b_len Zbw (Zaa (pv 2) Zab)) (pv 1))
  case' bas => refine' ZcP ?bat
  case' bat => refine' ZcE ?bau
  case' bau => refine' Zap ?bav ?baw ?bax ?bay ?baz
  case bav => exact (k_all (K := K) rfl rfl)
  case baw => exact (by rfl)
  case bax => exact B.b_all
  case bay => exact bt_all
  case' baz => refine' Zdd ?bba ?bbb
  case' bba => refine' ZcR (LN := ["sign"]) (FN := []) (fr := []) ?bbc ?bbd ?bbe ?bbf ?bbg ?bbh
  case bbc => exact rfl
  case bbd => exact (ZdO (by rfl))
  case bbe => exact (Zem (K := K) rfl (pv 2))
  case' bbf => intro cl C fp pins s H
  case bbf => exact (ZaE (i := 0) (show ((["sign"] : List Str) ++ ([] : List Str)).Nodup by decide +kernel) rfl (Or.inl rfl))
  case' bbg => intro cl C fp pins s H
  case bbg => exact Zcc
  case' bbh => intro cl C fp pins s H
  case bbh => exact (ZcS op_inS (pv 0) (Zmo (by rfl) G.c_FIGURES) (by with_unfolding_all rfl))
  case bbb => exact Zab
  case ban => exact (Zaf (ZcQ (by rfl) HX.m_NoText HX.exc (Zai Zan Zab)))
  case bao => exact Zaq
  case' bal => refine' Zac ?bbi ?bbj
  case' bbi => refine' ZaL ?bbk ?bbl ?bbm
  case bbk => exact (PW.pt (ZdD (Zal Zba (Zax Zfg (pv 2) Zad (fun _ _ => rfl)) Zan (Zao _)) (ZcP (Zal ZhR (pv 0) Zan (Zao _)))))
  case bbl => exact (Zaf (ZcQ (by rfl) HX.m_NoText HX.exc (Zai Zan Zab)))
  case bbm => exact Zaq
  case bbj => exact (Zaf (Zas (ZaS Zgu (by rfl) B.b_int ZeZ (Zaa (pv 0) Zab))))
  refine Zgb ?_
  refine Zhl ?_
  refine ZkH (fun v => ∃ fz : Str, An3 (v = .str fz) (cs fz = figT z) (Zbl fz)) ?_ fun N hN => ?_
  rotate_left
  · walk_at "rd"
    refine ⟨rfl, ?_⟩
    walk_at "rd"
    rw [show Txt.startswith z (Str.ofString "-") = decide ((cs z).head? = some 45) from Zf5 z]
    refine ZaH (fun hd => ?_) (fun hd => ?_)
    · walk_at "rd"
      have h1 : 1 <= z.length := by
        rw [<- hl]
        cases ez : cs z with
        | nil => rw [ez] at hd; cases hd
        | cons c r => simp
      have es : cs (Txt.slice z (some 1) none) = figT z := by
        rw [Zis z h1]
        unfold figT
        rw [if_pos hd]
      refine ⟨z, rfl, (Za8 (by lia)), hN _ ⟨_, rfl, es, asc_mem.mpr fun c hc => ?_⟩⟩
      rw [Zis z h1] at hc
      exact asc_mem.mp az c (List.mem_of_mem_drop hc)
    · walk_at "rd"
      exact hN _ ⟨z, rfl, by unfold figT; rw [if_neg hd], az⟩
  rintro v ⟨fz, rfl, ef, af⟩
  have hfl := ZaO fz
  have hfz : fz.length <= 900000 := by
    rw [<- hfl, ef]
    unfold figT
    split
    · rw [List.length_drop]; lia
    · lia
  have bad : ∀ H', ¬ ((1 <= (figT z).length /\ (figT z).length <= most) /\ (figT z).all Zca = true) -> Same H H' -> E (.ref Zaj) none H' := fun H' h s' => no H' (by unfold ZaM; rw [if_neg h]) s'
  walk_at "rd"
  refine Zdc ((Za8 (by lia))) ?_
  walk_at "rd"
  refine ZaH (fun h1 => ?_) (fun h1 => ?_)
  rotate_left
  · walk_at "rd"
    exact ⟨by decide, bad _ (fun h => h1 (by rw [<- ef, hfl] at h; lia)) (Same.refl _)⟩
  walk_at "rd"
  refine ZaH (fun h2 => ?_) (fun h2 => ?_)
  rotate_left
  · walk_at "rd"
    exact ⟨by decide, bad _ (fun h => h2 (by rw [<- ef, hfl] at h; lia)) (Same.refl _)⟩
  walk_at "rd"
  refine ZfA ?_
  walk_at "rd"
  refine ⟨fz, rfl, af, ?_⟩
  refine ZjB ((Za8 (by show fz.length <= _; lia))) (fun i ys σ Hy => An3 (∃ x1, σ = [x1]) (Hy = H) (ys = ((cs fz).take i).map fun c => V.bl (Zca c))) ⟨⟨none, rfl⟩, rfl, rfl⟩ ?_ ?_
  · rintro i c ys σ Hy hc hle hlt ⟨⟨x1, rfl⟩, rfl, rfl⟩
    walk_at "rd"
    refine Zl1 ?_
    refine ⟨hlt, by simpa using hle, ⟨_, rfl⟩, rfl, ?_⟩
    have hc' : (cs fz)[i]? = some c := by rw [Array.getElem?_toList]; exact hc
    rw [List.take_add_one, hc']
    have : Zca c = decide (c ∈ (Str.ofString "0123456789").cps.toList) := Zlo c
    simp [this]
  rintro ys σ Hy _ ⟨⟨x1, rfl⟩, rfl, rfl⟩ p hp
  rw [show fz.cps.size = (cs fz).length from hfl.symm, List.take_length]
  have s1 := Same.new (o := .lst ((cs fz).map fun c => V.bl (Zca c))) hp
  have e1 : upd Hy p (.lst ((cs fz).map fun c => V.bl (Zca c))) p = some (.lst ((cs fz).map fun c => V.bl (Zca c))) := Zae
  generalize upd Hy p (.lst ((cs fz).map fun c => V.bl (Zca c))) = H1 at s1 e1
  walk_at "rd"
  refine ⟨p, (cs fz).map Zca, rfl, SqL.of (by rw [e1, List.map_map]; rfl), ?_⟩
  walk_at "rd"
  have ea : ((cs fz).map Zca).all id = (figT z).all Zca := by rw [ef, List.all_map]; rfl
  rw [ea]
  cases hall : (figT z).all Zca with
  | false =>
    walk_at "rd"
    exact ⟨by decide, bad _ (fun h => by rw [hall] at h; exact absurd h.2 (by decide)) s1⟩
  | true =>
    walk_at "rd"
    have hcond : (1 <= (figT z).length /\ (figT z).length <= most) /\ (figT z).all Zca = true := ⟨by rw [<- ef, hfl]; lia, hall⟩
    obtain ⟨c, r, ec⟩ : ∃ c r, cs fz = c :: r := by
      cases h : cs fz with
      | nil => rw [h] at hfl; simp at hfl; lia
      | cons c r => exact ⟨c, r, rfl⟩
    refine ⟨fz, 0, c, rfl, rfl, (Za8 (by lia)), Zar (n := 0) rfl (by show (cs fz)[0]? = _; rw [ec]; rfl), ?_⟩
    walk_at "rd"
    obtain ⟨hzl, n', hn'⟩ := Ze6 hm hcond.1 hcond.2
    have fin : ¬ ((figT z).head? = some 48 /\ cs z ≠ [48]) -> ZaM most z = some n' := fun h => by
      unfold ZaM
      rw [if_pos hcond, if_neg h]
      exact hn'
    have hz0 : z = Str.ofString "0" ↔ cs z = [48] := ⟨fun e => by rw [e]; decide, fun e => ZdM (by rw [e]; decide)⟩
    have hc0 : (⟨#[c]⟩ : Str) = Str.ofString "0" ↔ (figT z).head? = some 48 := by
      rw [<- ef, ec]
      constructor
      · intro e
        have := congrArg cs e
        have h2 : [c] = [48] := this.trans (by decide)
        rw [(List.cons.inj h2).1]
        rfl
      · intro e
        cases e
        decide
    refine ZaH (fun h3 => ?_) (fun h3 => ?_)
    · walk_at "rd"
      refine Zed (fun h4 => ?_) (fun h4 => ?_)
      · walk_at "rd"
        exact ⟨by decide, no _ (by unfold ZaM; rw [if_pos hcond, if_pos ⟨hc0.mp h3, fun e => h4 (hz0.mpr e)⟩]) s1⟩
      · walk_at "rd"
        refine ZfB hn' (by lia) ?_
        exact k _ _ (fin fun h => h.2 (hz0.mp h4)) s1
    · walk_at "rd"
      refine ZfB hn' (by lia) ?_
      exact k _ _ (fin fun h => h3 (hc0.mpr h.1)) s1
inductive Pr_read_head (C : Addr) (x : V) (H : Hp) (Q : VK) (E : XK) : Prop
 | mk (a ns) (_ : x = .ref a) (_ : H a = some (.lst (ns.map V.int))) (_ : ns.length <= 1000000) (_ : ∀ t b : Int, ns = [t, b] -> ∀ p q H', H' p = some (.tup [.int t, .int b, .ref q]) -> H' q = some (.lst []) -> H q = none -> Same H H' -> Q (.ref p) H') (_ : ns.length ≠ 2 -> ∀ H', Same H H' -> E (.ref C) none H') : Pr_read_head C x H Q E
noncomputable def Zd5 (C : Addr) : Sp := spX1 (Pr_read_head C)
theorem sc_read_head : FnScope ["numbers"] ["numbers"] (Zag ZbD) := ⟨rfl, rfl, rfl, by decide +kernel, rfl, by decide +kernel, by decide +kernel⟩
theorem ZgS {Zaj ZaA Zav ZaX : Addr} (B : Blt mg) (HX : ExH K mg Zaj ZaA Zav ZaX) (T_read_head : TopFn K mg "read_head" ZbD ["numbers"]) : CalleeX P w K mg base Zaj "read_head" 1 ["numbers"] (Zd5 Zaj) := by
 refine T_read_head.okX1 sc_read_head fun f cdv A outer s H v1 Q E hr h => ?_
 have nd := sc_read_head.nd
 obtain ⟨a, ns, rfl, ha, hl, k, no⟩ := h
 refine' ZdJ [some (.ref a)] rfl ?hb ?hg
 case' hb => refine' Zac ?bab ?bac
 case' bab => refine' ZaL ?bad ?bae ?baf
 case bad => exact (Zal ZhR (Zap (Zb9 (K := K) rfl) (by rfl) B.b_len Zbw (Zaa (pv 0) Zab)) Zad (Zao _))
 case bae => exact (Zaf (ZcQ (by rfl) HX.m_NoText HX.exc (Zai Zan Zab)))
 case baf => exact Zaq
 case' bac => refine' Zaf ?bag
 case' bag => refine' Zas ?bah
 case' bah => refine' Zcx ?bai
 case' bai => refine' Za1 ?baj ?bak
 case baj => exact (Zax (k_ix (K := K) rfl) (pv 0) Zad (fun _ _ => rfl))
 case bak => exact (Za1 (Zax (k_ix (K := K) rfl) (pv 0) Zad (fun _ _ => rfl)) (Zel (Za4 Zab) Zab))
 walk_at "rd"
 refine Zbk (SqL.of ha) ?_
 walk_at "rd"
 refine Zed (fun h1 => ?_) (fun h1 => ?_)
 ·walk_at "rd"
  refine ⟨by decide, no (fun e => h1 (by rw [List.length_map, e]; rfl)) _ (Same.refl _)⟩
 rw [List.length_map] at h1
 obtain ⟨t, b, rfl⟩ : ∃ t b, ns = [t, b] := by
  rcases ns with _ | ⟨t, _ | ⟨b, _ | ⟨b2, r2⟩⟩⟩
  ·simp at h1
  ·simp at h1
  ·exact ⟨t, b, rfl⟩
  ·simp only [List.length_cons] at h1; lia
 have k := k t b rfl
 walk_at "rd"
 refine Zak ha (v := .int t) (Zar (n := 0) rfl rfl) ?_
 walk_at "rd"
 refine Zak ha (v := .int b) (Zar (n := 1) rfl rfl) ?_
 walk_at "rd"
 walk_at "mk"; intro q hq
 have s0 := Same.new (o := .lst []) hq
 have e0 : upd H q (.lst []) q = some (.lst []) := Zae
 generalize upd H q (.lst []) = H0 at s0 e0
 walk_at "rd"
 walk_at "mk"; intro p hp
 have s1 := Same.new (o := .tup [V.int t, V.int b, V.ref q]) hp
 exact k p q _ Zae (s1 _ _ e0) hq (s0.trans s1)
theorem Zc8 {H : Hp} : ∀ (ns : List Int), Reps H (ns.map D.int) (ns.map V.int)
 | [] => ZaT
 | n :: ns => Zau ZbZ (Zc8 ns)
inductive Pr_read_call (C : Addr) (x : V) (H : Hp) (Q : VK) (E : XK) : Prop
 | mk (a ns) (_ : x = .ref a) (_ : H a = some (.lst (ns.map V.int))) (_ : ns.length <= 1000000) (_ : ∀ (c b : Int) (qs : List Int), ns = c :: b :: qs -> ∀ v H', Rep H' (rowD (Zb3, [.int c, .int b, .tup (qs.map D.int)])) v -> Same H H' -> Q v H') (_ : ns.length < 2 -> ∀ H', Same H H' -> E (.ref C) none H') : Pr_read_call C x H Q E
noncomputable def Zd6 (C : Addr) : Sp := spX1 (Pr_read_call C)
theorem sc_read_call : FnScope ["numbers"] ["numbers"] (Zag ZbE) := ⟨rfl, rfl, rfl, by decide +kernel, rfl, by decide +kernel, by decide +kernel⟩
theorem ZgT {Zaj ZaA Zav ZaX : Addr} (B : Blt mg) (HX : ExH K mg Zaj ZaA Zav ZaX) (T_read_call : TopFn K mg "read_call" ZbE ["numbers"]) : CalleeX P w K mg base Zaj "read_call" 1 ["numbers"] (Zd6 Zaj) := by
 refine T_read_call.okX1 sc_read_call fun f cdv A outer s H v1 Q E hr h => ?_
 have nd := sc_read_call.nd
 obtain ⟨a, ns, rfl, ha, hl, k, no⟩ := h
 refine' ZdJ [some (.ref a)] rfl ?hb ?hg
 case' hb => refine' Zac ?bab ?bac
 case' bab => refine' ZaL ?bad ?bae ?baf
 case bad => exact (Zal ZkD (Zap (Zb9 (K := K) rfl) (by rfl) B.b_len Zbw (Zaa (pv 0) Zab)) Zad (Zao _))
 case bae => exact (Zaf (ZcQ (by rfl) HX.m_NoText HX.exc (Zai Zan Zab)))
 case baf => exact Zaq
 case' bac => refine' Zaf ?bag
 case' bag => refine' Zas ?bah
 case' bah => refine' Zcx ?bai
 case' bai => refine' Zai ?baj ?bak
 case baj => exact Zan
 case' bak => refine' Za1 ?bal ?bam
 case bal => exact (Zax (k_ix (K := K) rfl) (pv 0) Zad (fun _ _ => rfl))
 case' bam => refine' Za1 ?ban ?bao
 case ban => exact (Zax (k_ix (K := K) rfl) (pv 0) Zad (fun _ _ => rfl))
 case' bao => refine' ZaJ ?bap ?baq
 case bap => exact (ZaS (Zds (K := K) rfl) (by rfl) B.b_tuple Zb5 (Za1 (Zat (k_sl (K := K) rfl) (pv 0) (ZaB Zad) ZaC) Zab))
 case baq => exact Zab
 walk_at "rd"
 refine Zbk (SqL.of ha) ?_
 walk_at "rd"
 refine ZaH (fun h1 => ?_) (fun h1 => ?_)
 ·walk_at "rd"
  rw [List.length_map] at h1
  exact ⟨by decide, no (by lia) _ (Same.refl _)⟩
 rw [List.length_map] at h1
 obtain ⟨c, b, qs, rfl⟩ : ∃ c b qs, ns = c :: b :: qs := by
  rcases ns with _ | ⟨t, _ | ⟨b, qs⟩⟩
  ·exact absurd (show ((0 : Nat) : Int) < 2 by decide) h1
  ·exact absurd (show ((1 : Nat) : Int) < 2 by decide) h1
  ·exact ⟨t, b, qs, rfl⟩
 have k := k c b qs rfl
 walk_at "rd"
 refine Zak ha (v := .int c) (Zar (n := 0) rfl rfl) ?_
 walk_at "rd"
 refine Zak ha (v := .int b) (Zar (n := 1) rfl rfl) ?_
 walk_at "rd"
 refine ZdB (SqL.of ha) fun p2 hp2 => ?_
 have ec : cutV ((c :: b :: qs).map V.int) (some 2) none = qs.map V.int := ZcV (k := 2) (by simp)
 rw [ec]
 have s2 := Same.new (o := .lst (qs.map V.int)) hp2
 have e2 : upd H p2 (.lst (qs.map V.int)) p2 = some (.lst (qs.map V.int)) := Zae
 generalize upd H p2 (.lst (qs.map V.int)) = H2 at s2 e2
 walk_at "rd"
 refine Zdn (SqL.of e2) fun p3 hp3 => ?_
 have s3 := Same.new (o := .tup (qs.map V.int)) hp3
 have e3 : upd H2 p3 (.tup (qs.map V.int)) p3 = some (.tup (qs.map V.int)) := Zae
 generalize upd H2 p3 (.tup (qs.map V.int)) = H3 at s3 e3
 walk_at "rd"
 walk_at "mk"; intro p4 hp4
 have s4 := Same.new (o := .tup [V.str "call", V.int c, V.int b, V.ref p3]) hp4
 refine k (.ref p4) _ ?_ ((s2.trans s3).trans s4)
 exact ZbY Zae (Zau (by rw [Rep]; rfl) (Zau ZbZ (Zau ZbZ (Zau (ZbY (s4 _ _ e3) (Zc8 qs)) ZaT))))
inductive Pr_read_row (C : Addr) (x y : V) (H : Hp) (Q : VK) (E : XK) : Prop
 | mk (wd a ns) (_ : x = .str wd) (_ : y = .ref a) (_ : H a = some (.lst (ns.map V.int))) (_ : ns.length <= 999000) (_ : ∀ r, rowP wd ns = some r -> ∀ v H', Rep H' (rowD r) v -> Same H H' -> Q v H') (_ : rowP wd ns = none -> ∀ H', Same H H' -> E (.ref C) none H') : Pr_read_row C x y H Q E
noncomputable def Zev (C : Addr) : Sp := spX2 (Pr_read_row C)
theorem sc_read_row : FnScope ["word", "numbers"] ["word", "numbers"] (Zag ZbO) := ⟨rfl, rfl, rfl, by decide +kernel, rfl, by decide +kernel, by decide +kernel⟩
theorem ZhY {Zaj ZaA Zav ZaX : Addr} (B : Blt mg) (HX : ExH K mg Zaj ZaA Zav ZaX) (G : Glb K w mg) (T_read_row : TopFn K mg "read_row" ZbO ["word", "numbers"]) (Cread_call : CalleeX P w K mg base Zaj "read_call" 1 ["numbers"] (Zd6 Zaj)) : CalleeX P w K mg base Zaj "read_row" 2 ["word", "numbers"] (Zev Zaj) := by
  refine T_read_row.okX2 sc_read_row fun f cdv A outer s H v1 v2 Q E hr h => ?_
  have nd := sc_read_row.nd
  obtain ⟨wd, a, ns, rfl, rfl, ha, hl, k, no⟩ := h
  refine' ZdJ [some (.str wd), some (.ref a)] rfl ?hb ?hg
  case' hb => refine' Zac ?bab ?bac
  case' bab => refine' ZaL ?bad ?bae ?baf
  case bad => exact (Zal (ZkC (K := K) (w := w) (tb := partsT) rfl rfl) (pv 0) (pe_cd (K := K) (w := w) (by rfl) G.c_PARTS) (by with_unfolding_all rfl))
  case bae => exact (Zaf (ZcQ (by rfl) HX.m_NoText HX.exc (Zai Zan Zab)))
  case baf => exact Zaq
  case' bac => refine' Zac ?bag ?bah
  case' bag => refine' ZaL ?bai ?baj ?bak
  case bai => exact (Zal Zba (pv 0) Zan (Zao _))
  case baj => exact (Zaf (Zas (ZiX Cread_call (hr.mono (by first | decide | lia)) (by rfl) (Zaa (pv 1) Zab))))
  case bak => exact Zaq
  case' bah => refine' Zac ?bal ?bam
  case' bal => refine' ZaL ?ban ?bao ?bap
  case' ban => refine' Zal ?baq ?bar ?bas ?bat
  case baq => exact ZhR
  case bar => exact (Zap (Zb9 (K := K) rfl) (by rfl) B.b_len Zbw (Zaa (pv 1) Zab))
  case' bas => refine' Zap ?bau ?bav ?baw ?bax ?bay
  case bau => exact (Zb9 (K := K) rfl)
  case bav => exact (by rfl)
  case baw => exact B.b_len
  case bax => exact Zbw
  case bay => exact (Za1 (Zkw (K := K) (w := w) (tb := partsT) rfl rfl (pe_cd (K := K) (w := w) (by rfl) G.c_PARTS) (pv 0) (fun _ _ => rfl)) Zab)
  case bat => exact (Zao _)
  case bao => exact (Zaf (ZcQ (by rfl) HX.m_NoText HX.exc (Zai Zan Zab)))
  case bap => exact Zaq
  case' bam => refine' Zaf ?baz
  case' baz => refine' Zas ?bba
  case' bba => refine' Zam ?bbb ?bbc ?bbd
  case bbb => exact (k_catW (K := K) rfl)
  case bbc => exact (Zcx (Zaa (pv 0) Zab))
  case bbd => exact (ZaS (Zds (K := K) rfl) (by rfl) B.b_tuple Zb5 (Zaa (pv 1) Zab))
  walk_at "rd"
  refine rd_cd fun cd hcd => ?_
  refine Zkc hcd ?_
  walk_at "rd"
  cases lk : partsT.lookup wd with
  | none =>
    refine ZdT rfl ?_
    walk_at "rd"
    exact ⟨by decide, no (by unfold rowP; rw [lk]) _ (Same.refl _)⟩
  | some ks =>
    refine Zec rfl ?_
    walk_at "rd"
    refine ZaH (fun hc => ?_) (fun hc => ?_)
    · walk_at "rd"
      refine Zlu ⟨a, _, rfl, ha, by lia, fun c b qs e v H' rv s' => k _ (by rw [e]; unfold rowP; rw [lk]; show (if wd = Zb3 then _ else _) = _; rw [if_pos (show wd = Zb3 from hc)]) v H' rv s', fun h2 H' s' => no ?_ H' s'⟩
      unfold rowP
      rw [lk]
      show (if wd = Zb3 then _ else _) = _
      rw [if_pos (show wd = Zb3 from hc)]
      rcases ns with _ | ⟨c, _ | ⟨b, qs⟩⟩
      · rfl
      · rfl
      · simp only [List.length_cons] at h2; lia
    walk_at "rd"
    refine Zbk (SqL.of ha) ?_
    walk_at "rd"
    refine rd_cd fun cd2 hcd2 => ?_
    walk_at "rd"
    refine cdK_of hcd2 lk fun tb htb => ?_
    walk_at "rd"
    refine Zfz (htb _) ?_
    walk_at "rd"
    have eN : rowP wd ns = if ns.length = ks.length then some (wd, ns.map D.int) else none := by
      unfold rowP
      rw [lk]
      show (if wd = Zb3 then _ else _) = _
      rw [if_neg (show ¬ wd = Zb3 from hc)]
    refine Zed (fun h1 => ?_) (fun h1 => ?_)
    · walk_at "rd"
      refine ⟨by decide, no ?_ _ (Same.refl _)⟩
      rw [eN, if_neg]
      intro z
      apply h1
      rw [List.length_map, List.length_map, z]
    have h2 : ns.length = ks.length := by
      rw [List.length_map, List.length_map] at h1
      lia
    have k := k _ (by rw [eN, if_pos h2])
    walk_at "rd"
    walk_at "mk"; intro p1 hp1
    have s1 := Same.new (o := .tup [V.str wd]) hp1
    have e1 : upd H p1 (.tup [V.str wd]) p1 = some (.tup [V.str wd]) := Zae
    generalize upd H p1 (.tup [V.str wd]) = H1 at s1 e1
    walk_at "rd"
    refine Zdn (SqL.of (s1 _ _ ha)) fun p2 hp2 => ?_
    have s2 := Same.new (o := .tup (ns.map V.int)) hp2
    have e2 : upd H1 p2 (.tup (ns.map V.int)) p2 = some (.tup (ns.map V.int)) := Zae
    generalize upd H1 p2 (.tup (ns.map V.int)) = H2 at s2 e2
    refine Zma (s2 _ _ e1) e2 (by rw [List.length_map]; simp only [List.length_cons, List.length_nil]; lia) fun p3 H3 hp3 s3 => ?_
    refine k (.ref p3) H3 ?_ ((s1.trans s2).trans s3)
    exact ZbY hp3 (Zau (by rw [Rep]) (Zc8 ns))
inductive DefL1 (H : Hp) (d : PDef) (v : V) (l : Addr) : Prop
 | mk (t ys) (_ : v = .ref t) (_ : H t = some (.tup [.int d.1, .int d.2.1, .ref l])) (_ : H l = some (.lst ys)) (_ : Reps H (d.2.2.map rowD) ys) : DefL1 H d v l
noncomputable def DefsL (H : Hp) (ds : List PDef) (vs : List V) (ls : List Addr) : Prop := ds.length = vs.length /\ ls.length = vs.length /\ ∀ (i : Nat) d v l, ds[i]? = some d -> vs[i]? = some v -> ls[i]? = some l -> DefL1 H d v l
theorem DefL1.mono {H H' : Hp} {d : PDef} {v : V} {l : Addr} (h : DefL1 H d v l) (s : Same H H') : DefL1 H' d v l := by
 obtain ⟨t, ys, e, h1, h2, h3⟩ := h
 exact ⟨t, ys, e, s _ _ h1, s _ _ h2, h3.mono s.ts⟩
theorem DefL1.wr {H : Hp} {d : PDef} {v : V} {l a : Addr} {xs : List V} {o : HO} (h : DefL1 H d v l) (ha : H a = some (.lst xs)) (n : l ≠ a) : DefL1 (upd H a o) d v l := by
 obtain ⟨t, ys, e, h1, h2, h3⟩ := h
 have tw : TSame H (upd H a o) := TSame.wr fun zs z => by rw [ha] at z; cases z
 exact ⟨t, ys, e, tw _ _ h1, by rw [Zaw n]; exact h2, h3.mono tw⟩
theorem DefL1.at {H : Hp} {d : PDef} {v : V} {l : Addr} (h : DefL1 H d v l) : DefAt [] H d v := by
 obtain ⟨t, ys, e, h1, h2, h3⟩ := h
 exact ⟨t, l, ys, e, h1, h2, List.not_mem_nil, h3⟩
theorem DefsL.mono {H H' : Hp} {ds : List PDef} {vs : List V} {ls : List Addr} (h : DefsL H ds vs ls) (s : Same H H') : DefsL H' ds vs ls := ⟨h.1, h.2.1, fun i d v l h1 h2 h3 => (h.2.2 i d v l h1 h2 h3).mono s⟩
theorem DefsL.tail {H : Hp} {d : PDef} {ds : List PDef} {v : V} {vs : List V} {l : Addr} {ls : List Addr} (h : DefsL H (d :: ds) (v :: vs) (l :: ls)) : DefL1 H d v l /\ DefsL H ds vs ls :=
 ⟨h.2.2 0 d v l rfl rfl rfl, Nat.succ.inj h.1, Nat.succ.inj h.2.1, fun i d' v' l' h1 h2 h3 => h.2.2 (i + 1) d' v' l' h1 h2 h3⟩
theorem DefsL.at {H : Hp} : ∀ {ds : List PDef} {vs : List V} {ls : List Addr}, DefsL H ds vs ls -> DefsAt [] H ds vs
 | [], [], _, _ => rfl
 | [], _ :: _, _, h => by cases h.1
 | _ :: _, [], _, h => by cases h.1
 | _ :: _, _ :: _, [], h => by cases h.2.1
 | d :: ds, v :: vs, l :: ls, h => ⟨v, vs, rfl, h.tail.1.at, DefsL.at h.tail.2⟩
theorem DefsL.snoc {H : Hp} {ds : List PDef} {vs : List V} {ls : List Addr} {d : PDef} {v : V} {l : Addr} (h : DefsL H ds vs ls) (k : DefL1 H d v l) : DefsL H (ds ++ [d]) (vs ++ [v]) (ls ++ [l]) := by
 obtain ⟨h1, h2, h3⟩ := h
 refine ⟨by simp [h1], by simp [h2], fun i d' v' l' e1 e2 e3 => ?_⟩
 rcases Nat.lt_trichotomy i vs.length with q | q | q
 ·rw [List.getElem?_append_left (by lia)] at e1 e2 e3
  exact h3 i d' v' l' e1 e2 e3
 ·rw [List.getElem?_append_right (by lia), show i - ds.length = 0 by lia] at e1
  rw [List.getElem?_append_right (by lia), show i - vs.length = 0 by lia] at e2
  rw [List.getElem?_append_right (by lia), show i - ls.length = 0 by lia] at e3
  cases e1
  cases e2
  cases e3
  exact k
 ·rw [List.getElem?_append_right (by lia), List.getElem?_eq_none (by simp; lia)] at e2
  cases e2
theorem DefsL.front {H : Hp} {ds : List PDef} {vs : List V} {ls : List Addr} {d : PDef} {v : V} {l : Addr} (hl : ds.length = vs.length) (hm : ls.length = vs.length) (h : DefsL H (ds ++ [d]) (vs ++ [v]) (ls ++ [l])) : DefsL H ds vs ls /\ DefL1 H d v l := by
 refine ⟨⟨hl, hm, fun i d' v' l' e1 e2 e3 => ?_⟩, h.2.2 ds.length d v l (by simp) (by rw [hl]; simp) (by rw [hl, <- hm]; simp)⟩
 have q := (List.getElem?_eq_some_iff.mp e2).1
 exact h.2.2 i d' v' l' (by rw [List.getElem?_append_left (by lia)]; exact e1) (by rw [List.getElem?_append_left (by lia)]; exact e2) (by rw [List.getElem?_append_left (by lia)]; exact e3)
structure RdI (H0 H : Hp) (q : Addr) (acc : List PDef) (vs : List V) (ls : List Addr) : Prop where
 at' : H q = some (.lst vs)
 df : DefsL H acc vs ls
 nd : ls.Nodup
 nq : q ∉ ls
 new : ∀ l ∈ ls, H0 l = none
 os : ∀ a o, a ≠ q -> a ∉ ls -> H0 a = some o -> H a = some o
theorem RdI.mono {H0 H H' : Hp} {q : Addr} {acc : List PDef} {vs : List V} {ls : List Addr} (I : RdI H0 H q acc vs ls) (s : Same H H') : RdI H0 H' q acc vs ls := ⟨s _ _ I.at', I.df.mono s, I.nd, I.nq, I.new, fun a o h1 h2 h3 => s _ _ (I.os a o h1 h2 h3)⟩
theorem RdI.lst {H0 H : Hp} {q : Addr} {acc : List PDef} {vs : List V} {ls : List Addr} (I : RdI H0 H q acc vs ls) {l : Addr} (hl : l ∈ ls) : ∃ ys, H l = some (.lst ys) := by
 obtain ⟨i, hi⟩ := List.mem_iff_getElem?.mp hl
 have q := (List.getElem?_eq_some_iff.mp hi).1
 have h1 := I.df.1
 have h2 := I.df.2.1
 obtain ⟨t, ys, _, _, h, _⟩ := I.df.2.2 i _ _ l (List.getElem?_eq_getElem (by lia)) (List.getElem?_eq_getElem (by lia)) hi
 exact ⟨ys, h⟩
theorem RdI.free {H0 H : Hp} {q : Addr} {acc : List PDef} {vs : List V} {ls : List Addr} (I : RdI H0 H q acc vs ls) {l : Addr} (h : H l = none) : l ≠ q /\ l ∉ ls /\ H0 l = none := by
 have n1 : l ≠ q := fun e => by rw [e, I.at'] at h; cases h
 have n2 : l ∉ ls := fun m => by obtain ⟨ys, e⟩ := I.lst m; rw [e] at h; cases h
 refine ⟨n1, n2, ?_⟩
 cases e : H0 l with
 | none => rfl
 | some o => rw [I.os l o n1 n2 e] at h; cases h
theorem RdI.push {H0 H H' : Hp} {q : Addr} {acc : List PDef} {vs : List V} {ls : List Addr} {a b : Int} {t l : Addr} (I : RdI H0 H q acc vs ls) (hl : H l = none) (s : Same H H') (h1 : H' t = some (.tup [.int a, .int b, .ref l])) (h2 : H' l = some (.lst [])) :
  RdI H0 (upd H' q (.lst (vs ++ [.ref t]))) q (acc ++ [(a, b, [])]) (vs ++ [.ref t]) (ls ++ [l]) := by
 obtain ⟨n1, n2, n3⟩ := I.free hl
 have J := I.mono s
 have k1 : DefL1 H' (a, b, []) (.ref t) l := ⟨t, [], rfl, h1, h2, ZaT⟩
 refine ⟨Zae, DefsL.snoc ⟨J.df.1, J.df.2.1, fun i d v m e1 e2 e3 => (J.df.2.2 i d v m e1 e2 e3).wr J.at' fun z => J.nq (z ▸ List.mem_of_getElem? e3)⟩ (k1.wr J.at' n1), ?_, ?_, ?_, ?_⟩
 ·rw [List.nodup_append]
  exact ⟨J.nd, by simp, fun x hx y hy e => n2 (by rw [List.mem_singleton] at hy; rw [<- hy, <- e]; exact hx)⟩
 ·intro z
  rcases List.mem_append.mp z with z | z
  ·exact J.nq z
  ·exact n1 (List.mem_singleton.mp z).symm
 ·intro x hx
  rcases List.mem_append.mp hx with hx | hx
  ·exact J.new x hx
  ·rw [List.mem_singleton.mp hx]; exact n3
 ·intro x o hx hx' e
  rw [Zaw hx]
  exact J.os x o hx (fun z => hx' (List.mem_append_left _ z)) e
theorem RdI.row {H0 H : Hp} {q : Addr} {acc : List PDef} {vs : List V} {ls : List Addr} {d : PDef} {v : V} {l : Addr} {r : Str × List D} {y : V} (hl : acc.length = vs.length) (hm : ls.length = vs.length) (I : RdI H0 H q (acc ++ [d]) (vs ++ [v]) (ls ++ [l])) (rr : Rep H (rowD r) y) :
  ∃ ys, ys.length = d.2.2.length /\ H l = some (.lst ys) /\ RdI H0 (upd H l (.lst (ys ++ [y]))) q (acc ++ [(d.1, d.2.1, d.2.2 ++ [r])]) (vs ++ [v]) (ls ++ [l]) := by
 obtain ⟨f, t, ys, rfl, h1, h2, h3⟩ := DefsL.front hl hm I.df
 have hnl : q ≠ l := fun z => I.nq (z ▸ List.mem_append_right _ List.mem_cons_self)
 have tw : TSame H (upd H l (.lst (ys ++ [y]))) := TSame.wr fun zs z => by rw [h2] at z; cases z
 have hys := h3.length
 rw [List.length_map] at hys
 refine ⟨ys, hys.symm, h2, by rw [Zaw hnl]; exact I.at', DefsL.snoc ⟨hl, hm, fun i d' v' m e1 e2 e3 => (f.2.2 i d' v' m e1 e2 e3).wr h2 ?_⟩ ⟨t, ys ++ [y], rfl, tw _ _ h1, Zae, ?_⟩, I.nd, I.nq, I.new, fun x o hx hx' e => ?_⟩
 ·intro z
  have := (List.nodup_append.mp I.nd).2.2 m (List.mem_of_getElem? e3) l List.mem_cons_self
  exact this z
 ·show Reps _ ((d.2.2 ++ [r]).map rowD) (ys ++ [y])
  rw [List.map_append]
  exact Reps.append (h3.mono tw) (Zau (rr.mono tw) ZaT)
 ·rw [Zaw (fun z => hx' (by rw [z]; exact List.mem_append_right _ List.mem_cons_self))]
  exact I.os x o hx hx' e
noncomputable def NewPg (H H' : Hp) (q : Addr) (ds : List PDef) : Prop := H q = none /\ ∃ vs ls, RdI H H' q ds vs ls
theorem NewPg.same {H H' : Hp} {q : Addr} {ds : List PDef} (h : NewPg H H' q ds) : Same H H' := by
 obtain ⟨hq, vs, ls, I⟩ := h
 intro a o e
 refine I.os a o (fun z => by rw [z, hq] at e; cases e) (fun z => by rw [I.new a z] at e; cases e) e
theorem NewPg.at {H H' : Hp} {q : Addr} {ds : List PDef} (h : NewPg H H' q ds) : ∃ vs, H' q = some (.lst vs) /\ DefsAt [] H' ds vs := by
 obtain ⟨hq, vs, ls, I⟩ := h
 exact ⟨vs, I.at', I.df.at⟩
theorem Zll {c x : Nat} : ∀ {ps : List (List Nat)} {p : List Nat}, p ∈ ps -> x ∈ p -> x ∈ jn c ps
  | [_], p, hp, hx => by rw [List.mem_singleton.mp hp] at hx; exact hx
  | a :: b :: r, p, hp, hx => by
    show x ∈ a ++ c :: jn c (b :: r)
    rcases List.mem_cons.mp hp with rfl | hp
    · exact List.mem_append_left _ hx
    · exact List.mem_append_right _ (List.mem_cons_of_mem _ (Zll hp hx))
theorem Zlm {c : Nat} : ∀ {ps : List (List Nat)} {p : List Nat}, p ∈ ps -> p.length <= (jn c ps).length
  | [_], p, hp => by rw [List.mem_singleton.mp hp]; exact Nat.le_refl _
  | a :: b :: r, p, hp => by
    show _ <= (a ++ c :: jn c (b :: r)).length
    rw [List.length_append, List.length_cons]
    rcases List.mem_cons.mp hp with rfl | hp
    · lia
    · have := Zlm (c := c) hp
      lia
theorem ZbX {z p : Str} {c : Nat} (h : p ∈ Txt.split z ⟨#[c]⟩) : (∀ x ∈ cs p, x ∈ cs z) /\ p.length <= z.length := by
 have e := congrArg cs (StrLaws.join_split z ⟨#[c]⟩)
 rw [ZbA] at e
 have hm : cs p ∈ (Txt.split z ⟨#[c]⟩).map cs := List.mem_map.mpr ⟨p, h, rfl⟩
 refine ⟨fun x hx => by rw [<- e]; exact Zll hm hx, ?_⟩
 have := Zlm (c := c) hm
 rw [e, ZaO, ZaO] at this
 exact this
theorem Zep {z p : Str} {c : Nat} (h : p ∈ Txt.split z ⟨#[c]⟩) (a : Zbl z) : Zbl p := asc_mem.mpr fun x hx => asc_mem.mp a x ((ZbX h).1 x hx)
theorem Zju {α β : Type} {f : β -> α -> Option β} {l m : List α} {b : β} (h : l.foldlM f b = none) : (l ++ m).foldlM f b = none := by
 rw [List.foldlM_append, h]
 rfl
theorem Zf3 {α β : Type} {f : β -> α -> Option β} {l : List α} {b : β} {i : Nat} (h : (l.take i).foldlM f b = none) : l.foldlM f b = none := by
 rw [<- List.take_append_drop i l]
 exact Zju h
theorem ZdK {α β : Type} {f : β -> α -> Option β} {l : List α} {b c : β} {i : Nat} {x : α} (hx : l[i]? = some x) (h : (l.take i).foldlM f b = some c) : (l.take (i + 1)).foldlM f b = f c x := by
 rw [List.take_add_one, hx, List.foldlM_append, h]
 show (f c x >>= pure) = _
 exact bind_pure _
theorem Zja {α β : Type} {f : α -> Option β} {l : List α} {r : List β} {i : Nat} {x : α} (hx : l[i]? = some x) (h : (l.take i).mapM f = some r) : (l.take (i + 1)).mapM f = (f x).map fun y => r ++ [y] := by
 rw [List.take_add_one, hx, List.mapM_append, h]
 show (some r >>= fun xs => ([x] : List α).mapM f >>= fun ys => pure (xs ++ ys)) = _
 rw [List.mapM_cons, List.mapM_nil]
 cases f x <;> rfl
theorem Zjb {α β : Type} {f : α -> Option β} {l : List α} {i : Nat} (h : (l.take i).mapM f = none) : l.mapM f = none := by
 rw [<- List.take_append_drop i l, List.mapM_append, h]
 rfl
theorem Zht {acc : List PDef} {line w0 : Str} {ws : List Str} (h : Txt.split line blank = w0 :: ws) : Zb1 acc line = match ws.mapM (ZaM 60) with | none => none | some ns => Zdk acc w0 ns := by
 unfold Zb1
 first
  | (rw [h]; done)
  | (rw [h]; rfl)
inductive Pr_read (C : Addr) (x : V) (H : Hp) (Q : VK) (E : XK) : Prop
 | mk (z) (_ : x = .str z) (_ : z.length <= 900000) (_ : Zbl z) (_ : ∀ ds, Zc3 z = some ds -> ∀ q H', NewPg H H' q ds -> Q (.ref q) H') (_ : Zc3 z = none -> ∀ H', Same H H' -> E (.ref C) none H') : Pr_read C x H Q E
noncomputable def Zil (C : Addr) : Sp := spX1 (Pr_read C)
theorem sc_read : FnScope ["text", "program", "line", "words", "numbers"] ["text"] (Zag Zd8) := ⟨rfl, rfl, rfl, by decide +kernel, rfl, by decide +kernel, by decide +kernel⟩
theorem c_read {Zaj ZaA Zav ZaX : Addr} (B : Blt mg) (G : Glb K w mg) (HX : ExH K mg Zaj ZaA Zav ZaX) (T_read : TopFn K mg "read" Zd8 ["text"]) (Cread_whole : CalleeX P w K mg base Zaj "read_whole" 1 ["text", "most"] (Zdx Zaj)) (Cread_head : CalleeX P w K mg base Zaj "read_head" 1 ["numbers"] (Zd5 Zaj)) (Cread_row : CalleeX P w K mg base Zaj "read_row" 2 ["word", "numbers"] (Zev Zaj)) : CalleeX P w K mg base Zaj "read" 3 ["text"] (Zil Zaj) := by
 refine T_read.okX1 sc_read fun f cdv A outer s H v1 Q E hr h => ?_
 have nd := sc_read.nd
 obtain ⟨z, rfl, hz, az, k, no⟩ := h
 refine' ZdJ [some (.str z), none, none, none, none] rfl ?hb ?hg
 case' hb => refine' Zac ?bab ?bac
 case bab => exact (Zb0 (i := 1) nd rfl (Or.inl rfl) (Za4 Zab))
 case' bac => refine' Zac ?bad ?bae
 case' bad => refine' Zb8 ?baf ?bag ?bah ?bai ?baj
 case baf => exact PassesOwn.leaving
 case bag => exact rfl
 case' bah => refine' ZbB (K := K) ?bak ?bal
 case bak => exact rfl
 case bal => exact (k_bm (K := K) rfl PySem.F.plainAttrs_str PySem.F.slot_str_split PySem.F.type_str_split Zck (pv 0) (Zai Zan Zab))
 case bai => exact (ZaE (i := 2) nd rfl (Or.inl rfl))
 case' baj => refine' Zac ?bam ?ban
 case' bam => refine' Zbx (i := 3) ?bao ?bap ?baq ?bar
 case bao => exact nd
 case bap => exact rfl
 case baq => exact (Or.inl rfl)
 case bar => exact (k_bm (K := K) rfl PySem.F.plainAttrs_str PySem.F.slot_str_split PySem.F.type_str_split Zck (pv 2) (Zai Zan Zab))
 case' ban => refine' Zac ?bas ?bat
 case' bas => refine' Zkq (i := 4) (LN := ["word"]) (FN := []) (fr := []) ?bau ?bav ?baw ?bax ?bay ?baz ?bba ?bbb ?bbc
 case bau => exact rfl
 case bav => exact nd
 case baw => exact rfl
 case bax => exact rfl
 case bay => exact (ZdO (by rfl))
 case baz => exact (ZbB (K := K) rfl (Zat (k_sl (K := K) rfl) (pv 3) (ZaB Zad) ZaC))
 case' bba => intro cl C fp pins s H
 case bba => exact (ZaE (i := 0) (show ((["word"] : List Str) ++ ([] : List Str)).Nodup by decide +kernel) rfl (Or.inl rfl))
 case' bbb => intro cl C fp pins s H
 case bbb => exact Zcc
 case' bbc => intro cl C fp pins s H hin
 case bbc => exact (Zmm hin Cread_whole (hr.mono (by first | decide | lia)) (by rfl) (Zaa (pv 0) (Zaa (Zmp (by rfl) G.c_MOST_FIGURES) Zab)))
 case' bat => refine' Zaf ?bbd
 case' bbd => refine' ZaL ?bbe ?bbf ?bbg
 case bbe => exact (Zal Zba (Zax (k_ix (K := K) rfl) (pv 3) Zad (fun _ _ => rfl)) Zan (Zao _))
 case' bbf => refine' Zaf ?bbh
 case' bbh => refine' ZbL ?bbi
 case' bbi => refine' k_bm (K := K) ?bbj ?bbk ?bbl ?bbm ?bbn ?bbo ?bbp
 case bbj => exact rfl
 case bbk => exact PySem.F.plainAttrs_list
 case bbl => exact PySem.F.slot_list_append
 case bbm => exact PySem.F.type_list_append
 case bbn => exact Zbb
 case bbo => exact (pv 1)
 case bbp => exact (ZaJ (ZiX Cread_head (hr.mono (by first | decide | lia)) (by rfl) (Zaa (pv 4) Zab)) Zab)
 case' bbg => refine' Zaf ?bbq
 case' bbq => refine' ZaL ?bbr ?bbs ?bbt
 case bbr => exact (Zal Zba (Zap (Zb9 (K := K) rfl) (by rfl) B.b_len Zbw (Zaa (pv 1) Zab)) Zad (Zao _))
 case bbs => exact (Zaf (ZcQ (by rfl) HX.m_NoText HX.exc (Zai Zan Zab)))
 case' bbt => refine' Zaf ?bbu
 case' bbu => refine' ZbL ?bbv
 case' bbv => refine' k_bm (K := K) ?bbw ?bbx ?bby ?bbz ?bca ?bcb ?bcc
 case bbw => exact rfl
 case bbx => exact PySem.F.plainAttrs_list
 case bby => exact PySem.F.slot_list_append
 case bbz => exact PySem.F.type_list_append
 case bca => exact Zbb
 case bcb => exact (Zax (k_ix (K := K) rfl) (Zax (k_ix (K := K) rfl) (pv 1) (pe_un Zk4 Zad) (fun _ _ => rfl)) Zad (fun _ _ => rfl))
 case' bcc => refine' ZaJ ?bcd ?bce
 case' bcd => refine' ZiX ?bcf ?bcg ?bch ?bci
 case bcf => exact Cread_row
 case bcg => exact (hr.mono (by first | decide | lia))
 case bch => exact (by rfl)
 case bci => exact (Za1 (Zax (k_ix (K := K) rfl) (pv 3) Zad (fun _ _ => rfl)) (Zaa (pv 4) Zab))
 case bce => exact Zab
 case bae => exact (Zaf (Zas (pv 1)))
 walk_at "rd"
 walk_at "mk"; intro q hq
 have s0 := Same.new (o := .lst []) hq
 have e0 : upd H q (.lst []) q = some (.lst []) := Zae
 have hos : ∀ a o, a ≠ q -> upd H q (.lst []) a = some o -> H a = some o := fun a o n e => by rw [Zaw n] at e; exact e
 have I0 : RdI H (upd H q (.lst [])) q [] [] [] := ⟨e0, ⟨rfl, rfl, fun i d v l e => (by cases e)⟩, List.nodup_nil, List.not_mem_nil, fun l hl => (by cases hl), fun a o n _ e => s0 _ _ e⟩
 generalize upd H q (.lst []) = H0 at s0 e0 hos I0
 walk_at "rd"
 refine ⟨rfl, ?_⟩
 walk_at "rd"
 refine Zdb (by decide) (Za8 (by lia)) fun p1 hp1 => ?_
 rw [show (Str.ofString "\n") = (⟨#[10]⟩ : Str) from Zcp]
 generalize hls : Txt.split z ⟨#[10]⟩ = lines
 have hll : lines.length <= 1000000 := by
  have := Zb7 z ⟨#[10]⟩
  rw [hls] at this
  lia
 have s1 := Same.new (o := .lst (lines.map V.str)) hp1
 have e1 : upd H0 p1 (.lst (lines.map V.str)) p1 = some (.lst (lines.map V.str)) := Zae
 have I1 := I0.mono s1
 have npq : p1 ≠ q := fun e => by rw [e, e0] at hp1; cases hp1
 have hp0 : H p1 = none := by
  cases e : H p1 with
  | none => rfl
  | some o => rw [s0 _ _ e] at hp1; cases hp1
 generalize upd H0 p1 (.lst (lines.map V.str)) = H1 at s1 e1 I1
 refine ZcZ (SqL.of e1) ?_
 refine Zdg (xs := lines.map V.str) (fun i σ Hx => Ex6 fun c2 c3 c4 acc vs ls => An7 (σ = [some (.str z), some (.ref q), c2, c3, c4]) ((lines.take i).foldlM Zb1 [] = some acc) (acc.length <= i) (∀ d ∈ acc, d.2.2.length <= i) (RdI H Hx q acc vs ls) (p1 ∉ ls) (Hx p1 = some (.lst (lines.map V.str)))) ⟨none, none, none, [], [], [], rfl, rfl, Nat.le_refl _, fun d hd => (by cases hd), I1, List.not_mem_nil, e1⟩ (fun i σ Hx _ z_ => by obtain ⟨_, _, _, _, _, _, _, _, _, _, _, _, e⟩ := z_; exact SqL.of e) ?_ ?_
 ·rintro i x σ Hx hx ⟨c2, c3, c4, acc, vs, ls, rfl, hacc, hal, har, I, np, ep⟩
  rw [List.getElem?_map] at hx
  obtain ⟨line, el, rfl⟩ := Option.map_eq_some_iff.mp hx
  have hmem : line ∈ Txt.split z ⟨#[10]⟩ := by rw [hls]; exact List.mem_of_getElem? el
  have al := Zep hmem az
  have hlz := (ZbX hmem).2
  have hil : i < lines.length := (List.getElem?_eq_some_iff.mp el).1
  have bad : Zb1 acc line = none -> ∀ H', Same Hx H' -> E (.ref Zaj) none H' := fun e H' s' => no (by
   unfold Zc3
   rw [Zcp, hls]
   exact Zf3 (i := i + 1) (by rw [ZdK el hacc]; exact e)) H' ((NewPg.same ⟨hq, vs, ls, I⟩).trans s')
  have next := ZdK (f := Zb1) el hacc
  walk_at "rd"
  refine ⟨rfl, ?_⟩
  walk_at "rd"
  refine Zdb (by decide) (Za8 (by lia)) fun p2 hp2 => ?_
  rw [show (Str.ofString " ") = (⟨#[32]⟩ : Str) from Zcy]
  obtain ⟨w0, ws, hws⟩ : ∃ w0 ws, Txt.split line ⟨#[32]⟩ = w0 :: ws := by
   cases hws : Txt.split line ⟨#[32]⟩ with
   | nil => exact absurd hws (ZbN _ _)
   | cons w0 ws => exact ⟨w0, ws, rfl⟩
  have hwl := Zb7 line ⟨#[32]⟩
  rw [hws] at hwl ⊢
  simp only [List.length_cons] at hwl
  have s2 := Same.new (o := .lst ((w0 :: ws).map V.str)) hp2
  have e2 : upd Hx p2 (.lst ((w0 :: ws).map V.str)) p2 = some (.lst ((w0 :: ws).map V.str)) := Zae
  generalize upd Hx p2 (.lst ((w0 :: ws).map V.str)) = H2 at s2 e2
  have lineE := Zht (acc := acc) (show Txt.split line blank = w0 :: ws by rw [Zcy]; exact hws)
  walk_at "rd"
  refine ZdB (SqL.of e2) fun p3 hp3 => ?_
  have ec : cutV ((w0 :: ws).map V.str) (some 1) none = ws.map V.str := ZcV (k := 1) (by simp)
  rw [ec]
  have s3 := Same.new (o := .lst (ws.map V.str)) hp3
  have e3 : upd H2 p3 (.lst (ws.map V.str)) p3 = some (.lst (ws.map V.str)) := Zae
  generalize upd H2 p3 (.lst (ws.map V.str)) = H3 at s3 e3
  refine ZcZ (SqL.of e3) ?_
  refine ZfS (xs := ws.map V.str) (Zc2 (by rw [List.length_map]; lia)) (fun j ys σ Hy => An3 (∃ x1, σ = [x1]) (Same H3 Hy) (∃ ns : List Int, An3 ((ws.take j).mapM (ZaM 60) = some ns) (ns.length = j) (ys = ns.map V.int))) ⟨⟨none, rfl⟩, Same.refl _, [], rfl, rfl, rfl⟩ (fun j ys σ Hy _ z_ => by obtain ⟨_, s4, _⟩ := z_; exact SqL.of (s4 _ _ e3)) ?_ ?_
  ·rintro j x ys σ Hy hx hle hlt ⟨⟨x1, rfl⟩, s4, ns, hns, hnl, rfl⟩
   rw [List.getElem?_map] at hx
   obtain ⟨wd, ew, rfl⟩ := Option.map_eq_some_iff.mp hx
   have hwm : wd ∈ Txt.split line ⟨#[32]⟩ := by rw [hws]; exact List.mem_cons_of_mem _ (List.mem_of_getElem? ew)
   have hwl2 := (ZbX hwm).2
   have nx := Zja (f := ZaM 60) ew hns
   walk_at "rd"
   refine useX2 ⟨wd, 60, rfl, rfl, by decide, by lia, Zep hwm al, fun n H5 hv s5 => ?_, fun H5 hv s5 => bad (by rw [lineE, Zjb (i := j + 1) (by rw [nx, hv]; rfl)]) _ (((s2.trans s3).trans s4).trans s5)⟩
   refine ⟨hlt, by simpa using hle, ⟨_, rfl⟩, s4.trans s5, ns ++ [n], by rw [nx, hv]; rfl, by simp [hnl], by simp⟩
  rintro ys σ Hy _ ⟨⟨x1, rfl⟩, s4, ns, hns, hnl, rfl⟩ p5 hp5
  rw [List.length_map] at hnl hns
  rw [List.take_length] at hns
  rw [hns] at lineE
  dsimp only at lineE
  have s5 := Same.new (o := .lst (ns.map V.int)) hp5
  have e5 : upd Hy p5 (.lst (ns.map V.int)) p5 = some (.lst (ns.map V.int)) := Zae
  generalize upd Hy p5 (.lst (ns.map V.int)) = H5 at s5 e5
  have s25 := ((s2.trans s3).trans s4).trans s5
  have I5 := I.mono s25
  walk_at "rd"
  refine Zak ((s3.trans (s4.trans s5)) _ _ e2) (v := .str w0) (Zar (n := 0) rfl rfl) ?_
  walk_at "rd"
  unfold Zdk at lineE
  refine ZaH (fun hd => ?_) (fun hd => ?_)
  ·rw [if_pos (show w0 = defW from hd)] at lineE
   walk_at "rd"
   refine ⟨.inl ⟨rfl, vs, SqL.of I5.at'⟩, ?_⟩
   walk_at "rd"
   refine Zlu ⟨p5, ns, rfl, e5, by lia, fun t b en p6 l6 H6 h6 g6 n6 s6 => ?_, fun h2 H6 s6 => bad ?_ _ (s25.trans s6)⟩
   rotate_left
   ·rw [lineE]
    rcases ns with _ | ⟨t, _ | ⟨b, _ | ⟨b2, r2⟩⟩⟩
    ·rfl
    ·rfl
    ·exact absurd rfl h2
    ·rfl
   ·subst en
    walk_at "rd"
    have hvl := I5.df.1
    refine ZaV (s6 _ _ I5.at') (Nat.lt_of_le_of_lt (show vs.length <= 1000000 by lia) (by rw [PySem.sizeLine_eq]; decide)) ?_
    have I6 := I5.push n6 s6 h6 g6
    have nl6 : p1 ≠ l6 := fun e => by rw [<- e, s25 _ _ ep] at n6; cases n6
    refine ⟨_, _, _, acc ++ [(t, b, [])], _, _, rfl, by rw [next, lineE], by simp; lia, fun d hd' => ?_, I6, fun hm => ?_, by rw [Zaw npq]; exact s6 _ _ (s25 _ _ ep)⟩
    ·rcases List.mem_append.mp hd' with hd' | hd'
     ·have := har d hd'; lia
     ·rw [List.mem_singleton.mp hd']; exact Nat.zero_le _
    ·rcases List.mem_append.mp hm with hm | hm
     ·exact np hm
     ·exact nl6 (List.mem_singleton.mp hm)
  ·rw [if_neg (show ¬ w0 = defW from hd)] at lineE
   walk_at "rd"
   refine Zbk (SqL.of I5.at') ?_
   walk_at "rd"
   have hvl := I5.df.1
   have hvm := I5.df.2.1
   refine ZaH (fun h0 => ?_) (fun h0 => ?_)
   ·have : acc = [] := List.eq_nil_of_length_eq_zero (by lia)
    rw [if_pos this] at lineE
    walk_at "rd"
    exact ⟨by decide, bad lineE _ s25⟩
   have hne : acc ≠ [] := fun e => h0 (by rw [e] at hvl; rw [<- hvl]; rfl)
   rw [if_neg hne] at lineE
   ·skip
    have hvn : vs ≠ [] := fun e => hne (List.eq_nil_of_length_eq_zero (by rw [hvl, e]; rfl))
    have hln : ls ≠ [] := fun e => hvn (List.eq_nil_of_length_eq_zero (by rw [<- hvm, e]; rfl))
    obtain ⟨acc0, d, rfl⟩ : ∃ a d, acc = a ++ [d] := ⟨_, _, (List.dropLast_concat_getLast hne).symm⟩
    obtain ⟨vs0, v, rfl⟩ : ∃ a d, vs = a ++ [d] := ⟨_, _, (List.dropLast_concat_getLast hvn).symm⟩
    obtain ⟨ls0, l, rfl⟩ : ∃ a d, ls = a ++ [d] := ⟨_, _, (List.dropLast_concat_getLast hln).symm⟩
    have hv0 : acc0.length = vs0.length := by simpa using hvl
    have hm0 : ls0.length = vs0.length := by simpa using hvm
    obtain ⟨t, ys, rfl, ht, hlt, _⟩ := (DefsL.front hv0 hm0 I5.df).2
    walk_at "rd"
    refine Zak I5.at' (v := .ref t) (ZhH _ _) ?_
    walk_at "rd"
    refine Zdo ht (v := .ref l) (Zar (n := 2) rfl rfl) ?_
    refine ⟨.inl ⟨rfl, _, SqL.of hlt⟩, ?_⟩
    walk_at "rd"
    refine Zak ((s3.trans (s4.trans s5)) _ _ e2) (v := .str w0) (Zar (n := 0) rfl rfl) ?_
    walk_at "rd"
    refine useX2 ⟨w0, p5, ns, rfl, rfl, e5, by rw [hnl]; lia, fun r hrow y H6 ry s6 => ?_, fun hrow H6 s6 => bad (by rw [lineE, hrow]; rfl) _ (s25.trans s6)⟩
    rw [hrow] at lineE
    have lineE : Zb1 (acc0 ++ [d]) line = some (Zee (acc0 ++ [d]) r) := lineE
    rw [ZcW] at lineE
    walk_at "rd"
    obtain ⟨ys', hyl, hl6, I6⟩ := (I5.mono s6).row hv0 hm0 ry
    have hdr := har d (List.mem_append_right _ List.mem_cons_self)
    refine ZaV hl6 (Nat.lt_of_le_of_lt (show ys'.length <= 1000000 by lia) (by rw [PySem.sizeLine_eq]; decide)) ?_
    refine ⟨_, _, _, _, _, _, rfl, by rw [next, lineE], by simp only [List.length_append, List.length_cons, List.length_nil] at hal ⊢; lia, fun d' hd' => ?_, I6, np, ?_⟩
    ·rcases List.mem_append.mp hd' with hd' | hd'
     ·have := har d' (List.mem_append_left _ hd'); lia
     ·rw [List.mem_singleton.mp hd']
      simp only [List.length_append, List.length_cons, List.length_nil]
      lia
    ·rw [Zaw (fun e => np (by rw [e]; exact List.mem_append_right _ List.mem_cons_self))]
     exact s6 _ _ (s25 _ _ ep)
 ·rintro σ Hx ⟨c2, c3, c4, acc, vs, ls, rfl, hacc, hal, har, I, np, ep⟩
  walk_at "rd"
  rw [List.length_map, List.take_length] at hacc
  exact k acc (by unfold Zc3; rw [Zcp, hls]; exact hacc) q Hx ⟨hq, vs, ls, I⟩
theorem _root_.L2.RowR.shape {r : Str × List D} (h : RowR r) : (r.1 = Zb3 /\ ∃ a b qs, r.2 = [.int a, .int b, .tup (qs.map D.int)] /\ L2.Za2 r = a :: b :: qs) \/ (r.1 ≠ Zb3 /\ ∃ ns, r.2 = ns.map D.int /\ L2.Za2 r = ns) := by
 have e := h.row
 unfold rowP at e
 split at e
 ·cases e
 ·split at e
  ·next ew =>
   generalize hn : L2.Za2 r = ns at e
   rcases ns with _ | ⟨a, _ | ⟨b, qs⟩⟩
   ·cases e
   ·cases e
   ·refine .inl ⟨ew, a, b, qs, ?_, rfl⟩
    exact (congrArg (·.2) (Option.some.inj e)).symm
  ·next ew =>
   split at e
   ·exact .inr ⟨ew, L2.Za2 r, (congrArg (·.2) (Option.some.inj e)).symm, rfl⟩
   ·cases e
theorem Zhc : ∀ {ns : List Int}, (∀ n ∈ ns, ZbC n) -> ((ns.map numS).map (·.length)).sum <= 61 * ns.length
  | [], _ => Nat.le_refl _
  | n :: ns, h => by
    have h1 := ZcT (h n List.mem_cons_self)
    have h2 := Zhc fun x hx => h x (List.mem_cons_of_mem _ hx)
    simp only [List.map_cons, List.sum_cons, List.length_cons]
    lia
theorem Zix {wd : Str} {ns : List Int} (hw : wd.length <= 10) (h : ∀ n ∈ ns, ZbC n) : (rowT wd ns).length <= 10 + 63 * ns.length := by
  have h1 := StrLaws.join_length_le blank (wd :: ns.map numS)
  have h2 := Zhc h
  rw [List.map_cons, List.sum_cons, List.length_cons, List.length_map] at h1
  have h3 : blank.length = 1 := by decide
  rw [h3] at h1
  unfold rowT
  cases ns with
  | nil => exact hw
  | cons n ns =>
    simp only [List.length_cons] at h1 h2 ⊢
    lia
theorem Zln {H : Hp} {R : It -> Hp -> Prop} {a : Addr} {xs : List V} (h : SqT K H a xs) (q : R (Itt K a) H) : itK K R (.ref a) H := ⟨a, rfl, ⟨xs, h⟩, q⟩
structure DefT (d : PDef) : Prop where
 r : DefR d
 n : d.2.2.length <= 400
 m : ∀ r ∈ d.2.2, (L2.Za2 r).length <= 50
theorem ZhC {d : PDef} (h : DefT d) : ∀ l ∈ defL d, l.length <= 3200 := by
 intro l hl
 rcases List.mem_cons.mp hl with rfl | hl
 ·have := Zix (wd := defW) (ns := [d.1, d.2.1]) (by decide) (by
   intro n hn
   simp only [List.mem_cons, List.not_mem_nil, or_false] at hn
   rcases hn with rfl | rfl
   ·exact h.r.takes
   ·exact h.r.boxes)
  simp only [List.length_cons, List.length_nil] at this
  unfold ZfL
  lia
 ·obtain ⟨r, hr, rfl⟩ := List.mem_map.mp hl
  have := Zix (wd := r.1) (ns := L2.Za2 r) (ZcC (h.r.rows r hr).row).2.2 (h.r.rows r hr).num
  have := h.m r hr
  lia
theorem Zig {c : Nat} : ∀ {ls : List Str}, (∀ l ∈ ls, l.length <= c) -> (ls.map (·.length)).sum <= c * ls.length
  | [], _ => Nat.le_refl _
  | l :: ls, h => by
    have h1 := h l List.mem_cons_self
    have h2 := Zig fun x hx => h x (List.mem_cons_of_mem _ hx)
    simp only [List.map_cons, List.sum_cons, List.length_cons, Nat.mul_add]
    lia
noncomputable def Zdj (ns : List Int) : List Nat := ns.flatMap fun n => 32 :: cs (numS n)
theorem Zg9 (a b : List Int) : Zdj (a ++ b) = Zdj a ++ Zdj b := by simp [Zdj]
theorem Zjl : ∀ (ns : List Int) (x : List Nat), jn 32 (x :: (ns.map numS).map cs) = x ++ Zdj ns
  | [], x => by simp [jn, Zdj]
  | n :: ns, x => by
    show x ++ 32 :: jn 32 (cs (numS n) :: (ns.map numS).map cs) = _
    rw [Zjl ns (cs (numS n))]
    rfl
theorem ZjE (wd : Str) (ns : List Int) : cs (rowT wd ns) = cs wd ++ Zdj ns := by
 unfold rowT
 rw [Zcy, ZbA, List.map_cons, Zjl]
theorem ZhD : ∀ (zs : List Str), cs (Str.join (Str.ofString "") zs) = (zs.map cs).flatten
  | [] => rfl
  | [x] => by simp [Str.join]
  | x :: y :: r => by
    show cs (x ++ Str.ofString "" ++ Str.join (Str.ofString "") (y :: r)) = _
    rw [Zbc, Zbc, ZhD (y :: r), show cs (Str.ofString "") = [] from by decide, List.append_nil]
    rfl
theorem ZdR {r : Str × List D} (h : RowR r) : ∀ d ∈ r.2, (∃ n, d = .int n /\ ZbC n) \/ ∃ qs : List Int, d = .tup (qs.map D.int) /\ (∀ q ∈ qs, ZbC q) /\ qs.length <= (L2.Za2 r).length := by
 intro d hd
 have hn := h.num
 rcases h.shape with ⟨_, a, b, qs, e, en⟩ | ⟨_, ns, e, en⟩
 ·rw [e] at hd
  rw [en] at hn ⊢
  simp only [List.mem_cons, List.not_mem_nil, or_false] at hd
  rcases hd with rfl | rfl | rfl
  ·exact .inl ⟨a, rfl, hn a List.mem_cons_self⟩
  ·exact .inl ⟨b, rfl, hn b (List.mem_cons_of_mem _ List.mem_cons_self)⟩
  ·exact .inr ⟨qs, rfl, fun q hq => hn q (List.mem_cons_of_mem _ (List.mem_cons_of_mem _ hq)), by simp only [List.length_cons]; lia⟩
 ·rw [e] at hd
  obtain ⟨n, hm, rfl⟩ := List.mem_map.mp hd
  rw [en] at hn
  exact .inl ⟨n, rfl, hn n hm⟩
theorem Zfr : ∀ {ns : List Int}, (∀ n ∈ ns, ZbC n) -> (Zdj ns).length <= 62 * ns.length
  | [], _ => Nat.le_refl _
  | n :: ns, h => by
    have h1 := ZcT (h n List.mem_cons_self)
    have h2 := Zfr fun x hx => h x (List.mem_cons_of_mem _ hx)
    show ((32 :: cs (numS n)) ++ Zdj ns).length <= _
    have h3 := ZaO (numS n)
    simp only [List.length_append, List.length_cons]
    lia
theorem Zj3 {r : Str × List D} {j : Nat} : ∀ n ∈ (r.2.take j).flatMap numD, n ∈ L2.Za2 r := fun n hn => by
 obtain ⟨d, hd, hn⟩ := List.mem_flatMap.mp hn
 exact List.mem_flatMap.mpr ⟨d, List.mem_of_mem_take hd, hn⟩
theorem Zif {r : Str × List D} {j : Nat} : ((r.2.take j).flatMap numD).length <= (L2.Za2 r).length := by
 unfold L2.Za2
 rw [show r.2.flatMap numD = ((r.2.take j) ++ (r.2.drop j)).flatMap numD by rw [List.take_append_drop], List.flatMap_append, List.length_append]
 lia
theorem ZkL {wd line : Str} {ns : List Int} (hw : wd.length <= 10) (h : ∀ n ∈ ns, ZbC n) (hl : ns.length <= 100) (e : cs line = cs wd ++ Zdj ns) : line.length <= 7000 := by
 rw [<- ZaO, e, List.length_append, ZaO]
 have := Zfr h
 lia
theorem ZmH (a b : Int) : Str.ofString "def " ++ numS a ++ Str.ofString " " ++ numS b = rowT defW [a, b] := by
 apply ZdM
 rw [ZjE, Zbc, Zbc, Zbc, show cs (Str.ofString "def ") = cs defW ++ [32] from by decide, show cs (Str.ofString " ") = [32] from by decide]
 simp [Zdj]
theorem Zey {i : Int} {H : Hp} {Q : VK} (h : ZbC i) (q : Q (.str (numS i)) H) : Zmc [.int i] H Q := ZlG (Ziq h) q
theorem Zj6 {a b : List (List Str)} (h : a.Sublist b) : a.flatten.length <= b.flatten.length := by
 induction h with
 | slnil => exact Nat.le_refl _
 | cons x _ ih => rw [List.flatten_cons, List.length_append]; lia
 | cons_cons x _ ih => rw [List.flatten_cons, List.flatten_cons, List.length_append, List.length_append]; lia
inductive Pr_written (x : V) (H : Hp) (Q : VK) : Prop
 | mk (p vs ds) (_ : x = .ref p) (_ : H p = some (.lst vs)) (_ : DefsAt [] H ds vs) (_ : ∀ d ∈ ds, DefT d) (_ : ((ds.map defL).flatten).length <= 300) (_ : ∀ H', Same H H' -> Q (.str (Zgd ds)) H') : Pr_written x H Q
noncomputable def ZhM : Sp := sp1 (Pr_written)
theorem sc__law_written : FnScope ["program", "lines", "takes", "boxes", "rows", "row", "line", "part"] ["program"] (Zag Zbe) := ⟨rfl, rfl, rfl, by decide +kernel, rfl, by decide +kernel, by decide +kernel⟩
theorem Ze2 (B : Blt mg) (T__law_written : TopFn K mg "_law_written" Zbe ["program"]) : Callee P w K mg base "_law_written" 1 ["program"] ZhM := by
 refine T__law_written.ok1 sc__law_written fun f cdv A outer s H v1 Q E hr h => ?_
 have nd := sc__law_written.nd
 obtain ⟨p, vs, ds, rfl, hp, D0, DT, hn, k⟩ := h
 have hlv := D0.length
 refine' Zbd [some (.ref p), none, none, none, none, none, none, none] rfl ?hb ?hg
 case' hb => refine' Zac ?bab ?bac
 case bab => exact (Zb0 (i := 1) nd rfl (Or.inl rfl) (Za4 Zab))
 case' bac => refine' Zac ?bad ?bae
 case' bad => refine' Zb8 ?baf ?bag ?bah ?bai ?baj
 case baf => exact PassesOwn.never
 case bag => exact rfl
 case bah => exact (ZbB (K := K) rfl (pv 0))
 case' bai => refine' Zen (K := K) (n := 3) ?bak ?bal ?bam
 case bak => exact rfl
 case bal => exact rfl
 case' bam => refine' Zcj ?ban ?bao
 case ban => exact (ZaE (i := 2) nd rfl (Or.inl rfl))
 case bao => exact (Zcj (ZaE (i := 3) nd rfl (Or.inl rfl)) (Zcj (ZaE (i := 4) nd rfl (Or.inl rfl)) ZfF))
 case' baj => refine' Zac ?bap ?baq
 case' bap => refine' ZbL ?bar
 case' bar => refine' k_bm (K := K) ?bas ?bat ?bau ?bav ?baw ?bax ?bay
 case bas => exact rfl
 case bat => exact PySem.F.plainAttrs_list
 case bau => exact PySem.F.slot_list_append
 case bav => exact PySem.F.type_list_append
 case baw => exact Zbb
 case bax => exact (pv 1)
 case' bay => refine' ZaW ?baz ?bba
 case' baz => refine' Zam ?bbb ?bbc ?bbd
 case bbb => exact Zbj
 case bbc => exact (Zam Zbj (Zam Zbj Zan (ZaS Zda (by rfl) B.b_str ZeY (Zaa (pv 2) Zab))) Zan)
 case bbd => exact (ZaS Zda (by rfl) B.b_str ZeY (Zaa (pv 3) Zab))
 case bba => exact Zab
 case' baq => refine' Zaf ?bbe
 case' bbe => refine' Zb8 ?bbf ?bbg ?bbh ?bbi ?bbj
 case bbf => exact PassesOwn.never
 case bbg => exact rfl
 case bbh => exact (ZbB (K := K) rfl (pv 4))
 case bbi => exact (ZaE (i := 5) nd rfl (Or.inl rfl))
 case' bbj => refine' Zac ?bbk ?bbl
 case bbk => exact (Zdq (i := 6) nd rfl (Or.inl rfl) (Zax (k_ix (K := K) rfl) (pv 5) Zad (fun _ _ => rfl)))
 case' bbl => refine' Zac ?bbm ?bbn
 case' bbm => refine' Zb8 ?bbo ?bbp ?bbq ?bbr ?bbs
 case bbo => exact PassesOwn.never
 case bbp => exact rfl
 case bbq => exact (Zhv (K := K) rfl (Zat (k_slT (K := K) rfl) (pv 5) (ZaB Zad) ZaC))
 case bbr => exact (ZaE (i := 7) nd rfl (Or.inl rfl))
 case' bbs => refine' Zaf ?bbt
 case' bbt => refine' ZaL ?bbu ?bbv ?bbw
 case' bbu => refine' ZcE ?bbx
 case' bbx => refine' Zap ?bby ?bbz ?bca ?bcb ?bcc
 case bby => exact ZbV
 case bbz => exact (by rfl)
 case bca => exact B.b_isinstance
 case bcb => exact ZaD
 case bcc => exact (Zaa (pv 7) (Zaa (Zcd (v := .ty "tuple") (by rfl) B.b_tuple Zb5 rfl) Zab))
 case' bbv => refine' Zaf ?bcd
 case' bcd => refine' Za0 (i := 6) ?bce ?bcf ?bcg ?bch
 case bce => exact nd
 case bcf => exact rfl
 case bcg => exact (Or.inl rfl)
 case' bch => refine' Zam ?bci ?bcj ?bck
 case bci => exact Zbj
 case bcj => exact (pv 6)
 case' bck => refine' k_bm (K := K) ?bcl ?bcm ?bcn ?bco ?bcp ?bcq ?bcr
 case bcl => exact rfl
 case bcm => exact PySem.F.plainAttrs_str
 case bcn => exact PySem.F.slot_str_join
 case bco => exact PySem.F.type_str_join
 case bcp => exact (Zc7 (K := K) rfl)
 case bcq => exact Zan
 case' bcr => refine' Zdd ?bcs ?bct
 case' bcs => refine' ZcR (LN := ["q"]) (FN := []) (fr := []) ?bcu ?bcv ?bcw ?bcx ?bcy ?bcz
 case bcu => exact rfl
 case bcv => exact (ZdO (by rfl))
 case bcw => exact (Zhv (K := K) rfl (pv 7))
 case' bcx => intro cl C fp pins s H
 case bcx => exact (ZaE (i := 0) (show ((["q"] : List Str) ++ ([] : List Str)).Nodup by decide +kernel) rfl (Or.inl rfl))
 case' bcy => intro cl C fp pins s H
 case bcy => exact Zcc
 case' bcz => intro cl C fp pins s H
 case bcz => exact (Zam Zbj Zan (ZaS Zda (by rfl) B.b_str ZeY (Zaa (pv 0) Zab)))
 case bct => exact Zab
 case' bbw => refine' Zaf ?bda
 case' bda => refine' Za0 (i := 6) ?bdb ?bdc ?bdd ?bde
 case bdb => exact nd
 case bdc => exact rfl
 case bdd => exact (Or.inl rfl)
 case bde => exact (Zam Zbj (Zam Zbj (pv 6) Zan) (ZaS Zda (by rfl) B.b_str ZeY (Zaa (pv 7) Zab)))
 case' bbn => refine' Zaf ?bdf
 case bdf => exact (ZbL (k_bm (K := K) rfl PySem.F.plainAttrs_list PySem.F.slot_list_append PySem.F.type_list_append Zbb (pv 1) (Zaa (pv 6) Zab)))
 case' bae => refine' Zaf ?bdg
 case bdg => exact (Zas (k_bm (K := K) rfl PySem.F.plainAttrs_str PySem.F.slot_str_join PySem.F.type_str_join (Zc7 (K := K) rfl) Zan (Zaa (pv 1) Zab)))
 walk_at "rd"
 walk_at "mk"; intro q hq
 have s0 := Same.new (o := .lst []) hq
 have e0 : upd H q (.lst []) q = some (.lst []) := Zae
 generalize upd H q (.lst []) = H0 at s0 e0
 have sm : ∀ {Hx : Hp}, BSame q H0 Hx -> Same H Hx := fun b a o e => b a o (fun z => by rw [z, hq] at e; cases e) (s0 _ _ e)
 have lim : ∀ i, (((ds.take i).map defL).flatten).length <= 300 := fun i => by
  have := Zj6 ((List.take_sublist i ds).map defL)
  lia
 walk_at "rd"
 refine ZcZ (SqL.of (s0 _ _ hp)) ?_
 refine Zdg (xs := vs) (fun i σ Hx => Ex6 fun c2 c3 c4 c5 c6 c7 => An3 (σ = [some (.ref p), some (.ref q), c2, c3, c4, c5, c6, c7]) (Hx q = some (.lst ((((ds.take i).map defL).flatten).map V.str))) (BSame q H0 Hx)) ⟨none, none, none, none, none, none, rfl, e0, BSame.refl _ _⟩ (fun i σ Hx _ z_ => by obtain ⟨_, _, _, _, _, _, _, _, b⟩ := z_; exact SqL.of (sm b _ _ hp)) ?_ ?_
 ·rintro i x σ Hx hx ⟨c2, c3, c4, c5, c6, c7, rfl, eq, bx⟩
  obtain ⟨d, ed, t, l, ys, rfl, ht0, hl0, _, rr0⟩ := D0.get hx
  have hd := DT d (List.mem_of_getElem? ed)
  have ht := sm bx _ _ ht0
  have hl := sm bx _ _ hl0
  have rr := rr0.mono (sm bx).ts
  have hyl := rr.length
  rw [List.length_map] at hyl
  have nl : l ≠ q := fun z => by rw [z, hq] at hl0; cases hl0
  have hlim := lim (i + 1)
  rw [List.take_add_one, ed] at hlim
  simp only [Option.toList_some, List.map_append, List.map_cons, List.map_nil, List.flatten_append, List.flatten_cons, List.flatten_nil, List.append_nil, List.length_append] at hlim
  generalize hpre : ((ds.take i).map defL).flatten = pre at *
  have hdl : (defL d).length = 1 + d.2.2.length := by simp [defL]; lia
  refine ZeC ht rfl ?_
  walk_at "rd"
  refine ⟨.inl ⟨rfl, _, SqL.of eq⟩, ?_⟩
  walk_at "rd"
  refine Zey hd.r.takes ?_
  have n1 := ZcT hd.r.takes
  have n2 := ZcT hd.r.boxes
  have d4 : (Str.ofString "def ").length = 4 := by decide
  have d1 : (Str.ofString " ").length = 1 := by decide
  refine Za9 (Za8 (by lia)) ?_
  walk_at "rd"
  refine Za9 (Za8 (by rw [ZaU]; lia)) ?_
  walk_at "rd"
  refine Zey hd.r.boxes ?_
  refine Za9 (Za8 (by rw [ZaU, ZaU]; lia)) ?_
  walk_at "rd"
  rw [ZmH]
  have hpl : pre.length + d.2.2.length <= 300 := by lia
  refine ZaV eq (Nat.lt_of_le_of_lt (show (pre.map V.str).length <= 1000000 by rw [List.length_map]; lia) (by rw [PySem.sizeLine_eq]; decide)) ?_
  have e1 : (upd Hx q (.lst (pre.map V.str ++ [V.str (rowT defW [d.1, d.2.1])]))) q = some (.lst ((pre ++ [ZfL d]).map V.str)) := by rw [Zae, List.map_append]; rfl
  have b1 : BSame q Hx (upd Hx q (.lst (pre.map V.str ++ [V.str (rowT defW [d.1, d.2.1])]))) := fun a o n e => by rw [Zaw n]; exact e
  generalize upd Hx q (.lst (pre.map V.str ++ [V.str (rowT defW [d.1, d.2.1])])) = H1 at e1 b1
  walk_at "rd"
  refine ZcZ (SqL.of (b1 _ _ nl hl)) ?_
  refine Zdg (xs := ys) (fun j σ Hy => Ex3 fun c5 c6 c7 => An3 (σ = [some (.ref p), some (.ref q), some (.int d.1), some (.int d.2.1), some (.ref l), c5, c6, c7]) (Hy q = some (.lst ((pre ++ ZfL d :: (d.2.2.take j).map fun (r : Str × List D) => rowT r.1 (L2.Za2 r)).map V.str))) (BSame q Hx Hy)) ⟨c5, c6, c7, rfl, e1, b1⟩ (fun j σ Hy _ z_ => by obtain ⟨_, _, _, _, _, b⟩ := z_; exact SqL.of (b _ _ nl hl)) ?_ ?_
  ·rintro j x σ Hy hx ⟨c5, c6, c7, rfl, ey, bY⟩
   obtain ⟨dr, edr, rdr⟩ := rr0.get' hx
   rw [List.getElem?_map] at edr
   obtain ⟨r, er, rfl⟩ := Option.map_eq_some_iff.mp edr
   have hr := hd.r.rows r (List.mem_of_getElem? er)
   have hm := hd.m r (List.mem_of_getElem? er)
   have hw := (ZcC hr.row).2.2
   have sY := sm (bx.trans bY)
   have rdy := rdr.mono sY.ts
   obtain ⟨a, xs', rfl, ha, rx0⟩ := Zbi (show Rep Hy (.tup (.str r.1 :: r.2)) x from rdy)
   obtain ⟨u, xs, rfl, ru, rx⟩ := ZaK rx0
   obtain rfl : u = .str r.1 := by rwa [Rep] at ru
   have hxl := rx.length
   walk_at "rd"
   refine Zdo ha (v := .str r.1) (Zar (n := 0) rfl rfl) ?_
   walk_at "rd"
   refine ZlH ha fun p3 hp3 => ?_
   have s3 := Same.new (o := .tup xs) hp3
   have e3 : upd Hy p3 (.tup xs) p3 = some (.tup xs) := Zae
   generalize upd Hy p3 (.tup xs) = H3 at s3 e3
   refine Zln (SqT.of e3) ?_
   have hrl : r.2.length <= 100 := by
    rcases hr.shape with ⟨_, a, b, qs, e, _⟩ | ⟨_, ns, e, en⟩
    ·rw [e]; simp
    ·rw [e, List.length_map]; rw [en] at hm; lia
   refine ZmI (xs := xs) (fun i σ Hz => Ex2 fun line c7 => An3 (σ = [some (.ref p), some (.ref q), some (.int d.1), some (.int d.2.1), some (.ref l), some (.ref a), some (.str line), c7]) (cs line = cs r.1 ++ Zdj ((r.2.take i).flatMap numD)) (Same H3 Hz)) ⟨r.1, c7, rfl, by simp [Zdj], Same.refl _⟩ (fun i σ Hz _ z_ => by obtain ⟨_, _, _, _, s4⟩ := z_; exact SqT.of (s4 _ _ e3)) ?_ ?_
   ·rintro m x σ Hz hx ⟨line, c7, rfl, eline, s4⟩
    obtain ⟨dp, edp, rdp⟩ := rx.get' hx
    have rdz := rdp.mono (s3.trans s4).ts
    have hll := ZkL hw (fun n hn => hr.num n (Zj3 n hn)) (by have := Zif (r := r) (j := m); lia) eline
    have hnext : ((r.2.take (m + 1)).flatMap numD) = ((r.2.take m).flatMap numD) ++ numD dp := by
     rw [List.take_add_one, edp]
     simp
    walk_at "rd"
    rcases ZdR hr dp (List.mem_of_getElem? edp) with ⟨n, rfl, hn⟩ | ⟨qs, rfl, hqs, hql⟩
    ·obtain rfl := Zbr rdz
     have nn := ZcT hn
     refine ZbT (t := "int") rfl (by decide) ?_
     walk_at "rd"
     refine Zec (by decide) ?_
     walk_at "rd"
     refine Za9 (Za8 (by lia)) ?_
     walk_at "rd"
     refine Zey hn ?_
     refine Za9 (Za8 (by rw [ZaU]; lia)) ?_
     walk_at "rd"
     refine ⟨_, _, rfl, ?_, s4⟩
     rw [hnext, Zg9, Zbc, Zbc, eline, show cs (Str.ofString " ") = [32] from by decide]
     simp [Zdj, numD]
    ·obtain ⟨t5, z5, rfl, ht5, rz5⟩ := Zbi rdz
     obtain rfl := Zf9 rz5
     refine ZbT (t := "tuple") (Zlw ht5) (by decide) ?_
     walk_at "rd"
     refine ZdT (by decide) ?_
     walk_at "rd"
     refine ⟨rfl, ?_⟩
     walk_at "rd"
     refine Zln (SqT.of ht5) ?_
     refine cw_tup (xs := qs.map V.int) (Zc2 (by rw [List.length_map]; lia)) (fun i ys σ H5 => An3 (∃ x1, σ = [x1]) (H5 = Hz) (ys = ((qs.take i).map fun n => Str.ofString " " ++ numS n).map V.str)) ⟨⟨none, rfl⟩, rfl, rfl⟩ (fun i ys σ H5 _ z_ => by obtain ⟨_, e, _⟩ := z_; rw [e]; exact SqT.of ht5) ?_ ?_
     ·rintro i x ys σ H5 hx hle hlt ⟨⟨x1, rfl⟩, rfl, rfl⟩
      rw [List.getElem?_map] at hx
      obtain ⟨n, en, rfl⟩ := Option.map_eq_some_iff.mp hx
      have hn := hqs n (List.mem_of_getElem? en)
      have nn := ZcT hn
      walk_at "rd"
      refine Zey hn ?_
      refine Za9 (Za8 (by lia)) ?_
      refine ⟨hlt, by simpa using hle, ⟨_, rfl⟩, rfl, ?_⟩
      rw [List.take_add_one, en]
      simp
     rintro ys σ H5 _ ⟨⟨x1, rfl⟩, rfl, rfl⟩ p6 hp6
     rw [List.length_map, List.take_length]
     have s6 := Same.new (o := .lst ((qs.map fun n => Str.ofString " " ++ numS n).map V.str)) hp6
     have hsum : ((qs.map fun n => Str.ofString " " ++ numS n).map (·.length)).sum <= 62 * qs.length := by
      have := Zig (c := 62) (ls := qs.map fun n => Str.ofString " " ++ numS n) (fun z hz => by
       obtain ⟨n, hn, rfl⟩ := List.mem_map.mp hz
       have := ZcT (hqs n hn)
       rw [ZaU]
       lia)
      rw [List.length_map] at this
      exact this
     walk_at "rd"
     refine ZcN (zs := qs.map fun n => Str.ofString " " ++ numS n) (SqL.of Zae) (by decide) (by rw [List.length_map]; lia) ?_
     have ej : cs (Str.join (Str.ofString "") (qs.map fun n => Str.ofString " " ++ numS n)) = Zdj qs := by
      rw [ZhD, List.map_map]
      unfold Zdj
      rw [List.flatMap_def]
      congr 1
      apply List.map_congr_left
      intro n _
      show cs (Str.ofString " " ++ numS n) = _
      rw [Zbc]
      rfl
     have hjl : (Str.join (Str.ofString "") (qs.map fun n => Str.ofString " " ++ numS n)).length <= 62 * qs.length := by
      rw [<- ZaO, ej]
      exact Zfr hqs
     refine Za9 (Za8 (by lia)) ?_
     walk_at "rd"
     refine ⟨_, _, rfl, ?_, s4.trans s6⟩
     rw [hnext, Zg9, Zbc, ej, eline]
     rw [show numD (.tup (qs.map D.int)) = qs from Zdf qs, List.append_assoc]
   ·rintro σ Hz ⟨line, c7, rfl, eline, s4⟩
    rw [<- hxl, List.take_length] at eline
    have hrow : line = rowT r.1 (L2.Za2 r) := ZdM (by rw [ZjE]; exact eline)
    subst hrow
    walk_at "rd"
    have eyz := (s3.trans s4) _ _ ey
    refine ⟨.inl ⟨rfl, _, SqL.of eyz⟩, ?_⟩
    walk_at "rd"
    refine ZaV eyz (Nat.lt_of_le_of_lt (m := 1000000) (by simp only [List.length_map, List.length_append, List.length_cons, List.length_take]; lia) (by rw [PySem.sizeLine_eq]; decide)) ?_
    refine ⟨_, _, _, rfl, ?_, ?_⟩
    ·rw [Zae, List.take_add_one, er]
     simp
    ·intro a o n e
     rw [Zaw n]
     exact (s3.trans s4) _ _ (bY a o n e)
  ·rintro σ Hy ⟨c5, c6, c7, rfl, ey, bY⟩
   walk_at "rd"
   refine ⟨_, _, _, _, _, _, rfl, ?_, bx.trans bY⟩
   have ef : ((ds.take (i + 1)).map defL).flatten = pre ++ defL d := by
    rw [List.take_add_one, ed, List.map_append, List.flatten_append, hpre]
    simp
   rw [ey, <- hyl, List.take_length, ef]
   rfl
 ·rintro σ Hx ⟨c2, c3, c4, c5, c6, c7, rfl, eq, bx⟩
  rw [<- hlv, List.take_length] at eq
  have hs := Zig (c := 3200) (ls := (ds.map defL).flatten) (fun z hz => by
   obtain ⟨m, hm, hz⟩ := List.mem_flatten.mp hz
   obtain ⟨d, hd, rfl⟩ := List.mem_map.mp hm
   exact ZhC (DT d hd) z hz)
  walk_at "rd"
  refine ⟨rfl, ?_⟩
  walk_at "rd"
  refine ZcN (zs := (ds.map defL).flatten) (SqL.of eq) (by decide) (by lia) ?_
  have := k Hx (sm bx)
  rw [ZcF] at this
  exact this
inductive Pr_any_sign (x : V) (H : Hp) (Q : VK) : Prop
 | mk (b l) (_ : x = .ref b) (_ : BagAt H b l) (_ : ∀ c H', c < 128 -> BagAt H' b l -> BSame b H H' -> Q (.str ⟨#[c]⟩) H') : Pr_any_sign x H Q
noncomputable def Zdm : Sp := sp1 (Pr_any_sign)
noncomputable def Zfa : Str := "0123456789- \nabcdefghijklmnopqrstuvwxyzABCDEFGHIJKLMNOPQRSTUVWXYZ"
noncomputable def Ze9 : Str := "!\"#$&'()*+,./:;<=>?\x40[\\]^_`{|}~"
theorem Zew : (Zfa ++ Ze9).length = 95 := by decide +kernel
theorem Ziu : ∀ c ∈ cs (Zfa ++ Ze9), c < 128 := by decide +kernel
theorem sc__law_any_sign : FnScope ["bag", "some"] ["bag"] (Zag Za6) := ⟨rfl, rfl, rfl, by decide +kernel, rfl, by decide +kernel, by decide +kernel⟩
theorem ZeX (B : Blt mg) (T__law_any_sign : TopFn K mg "_law_any_sign" Za6 ["bag"]) (Zah : Callee P w K mg base "_law_draw" 1 ["bag", "many"] Zcb) : Callee P w K mg base "_law_any_sign" 2 ["bag"] Zdm := by
 refine T__law_any_sign.ok1 sc__law_any_sign fun f cdv A outer s H v1 Q E hr h => ?_
 have nd := sc__law_any_sign.nd
 obtain ⟨b, l, rfl, Bg, k⟩ := h
 refine' Zbd [some (.ref b), none] rfl ?hb ?hg
 case' hb => refine' Zac ?bab ?bac
 case bab => exact (Zcw (i := 1) nd rfl (Or.inl rfl) Zan)
 case' bac => refine' Zac ?bad ?bae
 case bad => exact (Za0 (i := 1) nd rfl (Or.inl rfl) (Zam Zbj (pv 1) Zan))
 case' bae => refine' Zac ?baf ?bag
 case' baf => refine' ZaL ?bah ?bai ?baj
 case bah => exact (Zal Zba (ZaG Zah (hr.mono (by first | decide | lia)) (by rfl) (Zaa (pv 0) (Zai Zad Zab))) Zad (Zao _))
 case' bai => refine' Zaf ?bak
 case' bak => refine' Zas ?bal
 case bal => exact (Zax Zfg (pv 1) (ZaG Zah (hr.mono (by first | decide | lia)) (by rfl) (Zaa (pv 0) (Zai Zad Zab))) (fun _ _ => rfl))
 case baj => exact Zaq
 case' bag => refine' Zaf ?bam
 case' bam => refine' Zas ?ban
 case ban => exact (Zax Zfg (pv 1) (ZaG Zah (hr.mono (by first | decide | lia)) (by rfl) (Zaa (pv 0) (Zai Zad Zab))) (fun _ _ => rfl))
 walk_at "rd"
 refine Za9 (i := Zfa) (j := Ze9) (by rw [<- ZaU, Zew, PySem.sizeLine_eq]; decide) ?_
 walk_at "rd"
 have pick : ∀ (r : Int), 0 <= r -> r < 95 -> ∃ c, atI (Zfa ++ Ze9).cps.toList r = some c /\ c < 128 := by
  intro r h0 h1
  obtain ⟨n, rfl⟩ := Int.eq_ofNat_of_zero_le h0
  have hn : n < (cs (Zfa ++ Ze9)).length := by rw [ZaO, Zew]; lia
  exact ⟨_, Zar (n := n) rfl (List.getElem?_eq_getElem hn), Ziu _ (List.getElem_mem hn)⟩
 have hsz : (Zfa ++ Ze9).length <= PySem.sizeLine := by rw [Zew, PySem.sizeLine_eq]; decide
 refine use2 ⟨b, l, 3, rfl, rfl, ⟨by decide, by decide⟩, Bg, fun r1 H1 g0 g1 B1 b1 => ?_⟩
 walk_at "rd"
 refine ZaH (fun _ => ?_) (fun _ => ?_)
 ·walk_at "rd"
  refine use2 ⟨b, l, 13, rfl, rfl, ⟨by decide, by decide⟩, B1, fun r2 H2 h0 h1 B2 b2 => ?_⟩
  obtain ⟨c, e, hc⟩ := pick r2 h0 (by lia)
  exact ⟨_, r2, c, rfl, rfl, hsz, e, k c H2 hc B2 (b1.trans b2)⟩
 ·walk_at "rd"
  refine use2 ⟨b, l, 95, rfl, rfl, ⟨by decide, by decide⟩, B1, fun r2 H2 h0 h1 B2 b2 => ?_⟩
  obtain ⟨c, e, hc⟩ := pick r2 h0 (by lia)
  exact ⟨_, r2, c, rfl, rfl, hsz, e, k c H2 hc B2 (b1.trans b2)⟩
theorem Ze0 {c : Nat} (h : c < 128) : Zbl ⟨#[c]⟩ := asc_mem.mpr fun d hd => by
 rw [show d = c from List.mem_singleton.mp hd]; exact h
theorem Zco {c : Nat} : (⟨#[c]⟩ : Str).length = 1 := rfl
inductive Pr_run (x : V) (H : Hp) (Q : VK) : Prop
 | mk (b l) (_ : x = .ref b) (_ : BagAt H b l) (_ : ∀ z H', Zbl z -> z.length <= 12 -> BagAt H' b l -> BSame b H H' -> Q (.str z) H') : Pr_run x H Q
noncomputable def Zij : Sp := sp1 (Pr_run)
theorem sc__law_run : FnScope ["bag", "way", "many"] ["bag"] (Zag ZbP) := ⟨rfl, rfl, rfl, by decide +kernel, rfl, by decide +kernel, by decide +kernel⟩
theorem ZhZ (B : Blt mg) (T__law_run : TopFn K mg "_law_run" ZbP ["bag"]) (Zah : Callee P w K mg base "_law_draw" 1 ["bag", "many"] Zcb) (Zbh : Callee P w K mg base "_law_any_sign" 2 ["bag"] Zdm) : CalleeS P w K mg base "_law_run" 3 ["bag"] Zij := by
  refine T__law_run.ok1S sc__law_run fun f cdv A outer s H v1 Q E hr h => ?_
  have nd := sc__law_run.nd
  obtain ⟨b, l, rfl, Bg, k⟩ := h
  refine' ZkT [some (.ref b), none, none] rfl ?hb ?hg
  case' hb => refine' ZiV ?bab ?bac
  case bab => exact (Zmj (i := 1) nd rfl (Or.inl rfl) (pe_fnA Zah (hr.mono (by first | decide | lia)) (by rfl) (ZiZ (pv 0) Zms)))
  case' bac => refine' Zac ?bad ?bae
  case bad => exact (Zbx (i := 2) nd rfl (Or.inl rfl) (ZaG Zah (hr.mono (by first | decide | lia)) (by rfl) (Zaa (pv 0) (Zai Zad Zab))))
  case' bae => refine' Zac ?baf ?bag
  case baf => exact (ZaL (Zal Zba (pv 1) Zad (Zao _)) (Zaf (Zas (Zam ZeG Zan (pv 2)))) Zaq)
  case' bag => refine' Zac ?bah ?bai
  case' bah => refine' ZaL ?baj ?bak ?bal
  case baj => exact (Zal Zba (pv 1) Zad (Zao _))
  case bak => exact (Zaf (Zas (Zam ZeG (ZaG Zbh (hr.mono (by first | decide | lia)) (by rfl) (Zaa (pv 0) Zab)) (pv 2))))
  case bal => exact Zaq
  case' bai => refine' Zaf ?bam
  case' bam => refine' Zas ?ban
  case' ban => refine' k_bm (K := K) ?bao ?bap ?baq ?bar ?bas ?bat ?bau
  case bao => exact rfl
  case bap => exact PySem.F.plainAttrs_str
  case baq => exact PySem.F.slot_str_join
  case bar => exact PySem.F.type_str_join
  case bas => exact (Zc7 (K := K) rfl)
  case bat => exact Zan
  case' bau => refine' Zdd ?bav ?baw
  case' bav => refine' ZcR (LN := ["k"]) (FN := ["bag"]) (fr := [0]) ?bax ?bay ?baz ?bba ?bbb ?bbc
  case bax => exact rfl
  case bay => exact (ZdO (by rfl))
  case baz => exact (Zbs rfl B.b_range (Zaa (pv 2) Zab))
  case' bba => intro cl C fp pins s H
  case bba => exact (ZaE (i := 0) (show ((["k"] : List Str) ++ (["bag"] : List Str)).Nodup by decide +kernel) rfl (Or.inl rfl))
  case' bbb => intro cl C fp pins s H
  case bbb => exact Zcc
  case' bbc => intro cl C fp pins s H
  case bbc => exact (ZaG Zbh (hr.mono (by first | decide | lia)) (by rfl) (Zaa (pv 1) Zab))
  case baw => exact Zab
  walk_at "rd"
  refine use2 ⟨b, l, 3, rfl, rfl, ⟨by decide, by decide⟩, Bg, fun way H1 g0 g1 B1 b1 => ?_⟩
  walk_at "rd"
  refine use2 ⟨b, l, 13, rfl, rfl, ⟨by decide, by decide⟩, B1, fun many H2 h0 h1 B2 b2 => ?_⟩
  have b12 := b1.trans b2
  walk_at "rd"
  refine ZaH (fun _ => ?_) (fun _ => ?_)
  · walk_at "rd"
    refine Zez (by lia) (by lia) (by decide) fun hl => ?_
    exact k _ _ (Zg3 (Ze0 (c := 32) (by decide))) (by rw [show (Str.ofString " ").length = 1 from by decide] at hl; lia) B2 b12
  walk_at "rd"
  refine ZaH (fun _ => ?_) (fun _ => ?_)
  · walk_at "rd"
    refine use1 ⟨b, l, rfl, B2, fun c H3 hc B3 b3 => ?_⟩
    walk_at "rd"
    refine Zez (by lia) (by lia) (by rw [Zco]; decide) fun hl => ?_
    exact k _ _ (Zg3 (Ze0 hc)) (by rw [Zco] at hl; lia) B3 (b12.trans b3)
  walk_at "rd"
  refine ⟨rfl, ?_⟩
  walk_at "rd"
  refine ZcJ (by lia) (by lia) ?_
  refine Zdh (n := many.toNat) (Zcg (by lia)) (fun j ys σ Hy => (∃ x1, σ = [x1, some (.ref b)]) /\ ∃ zs : List Str, An5 (ys = zs.map V.str) (zs.length = j) (∀ z ∈ zs, Zbl z /\ z.length = 1) (BagAt Hy b l) (BSame b H2 Hy)) ⟨⟨none, rfl⟩, [], rfl, rfl, by simp, B2, BSame.refl _ _⟩ ?_ ?_
  · rintro j ys σ Hy hj hle hlt ⟨⟨x1, rfl⟩, zs, rfl, hz, hb, By, bY⟩
    walk_at "rd"
    refine use1 ⟨b, l, rfl, By, fun c H6 hc B6 b6 => ?_⟩
    refine ⟨hlt, by simpa using hle, ⟨_, rfl⟩, zs ++ [⟨#[c]⟩], by simp, by simp [hz], fun z hz' => ?_, B6, bY.trans b6⟩
    rcases List.mem_append.mp hz' with hz' | hz'
    · exact hb z hz'
    · rw [List.mem_singleton.mp hz']; exact ⟨Ze0 hc, Zco⟩
  rintro ys σ Hy _ ⟨⟨x1, rfl⟩, zs, rfl, hz, hb, By, bY⟩ p6 hp6
  have s6 := Same.new (o := .lst (zs.map V.str)) hp6
  have hsum : (zs.map (·.length)).sum <= zs.length := by
    have : ∀ (l : List Str), (∀ z ∈ l, z.length = 1) -> (l.map (·.length)).sum <= l.length := by
      intro l
      induction l with
      | nil => intro _; exact Nat.le_refl _
      | cons z l ih =>
        intro h
        have h1 := h z List.mem_cons_self
        have h2 := ih fun x hx => h x (List.mem_cons_of_mem _ hx)
        simp only [List.map_cons, List.sum_cons, List.length_cons]
        lia
    exact this zs fun z hz' => (hb z hz').2
  walk_at "rd"
  refine ZcN (zs := zs) (SqL.of Zae) (by decide) (by lia) ?_
  refine k _ _ (Zeq (asc_mem.mpr (by decide)) fun z hz' => (hb z hz').1) ?_ (By.mono s6) ((b12.trans bY).to s6)
  have := StrLaws.join_length_le (Str.ofString "") zs
  have h0' : (Str.ofString "").length = 0 := by decide
  rw [h0'] at this
  lia
inductive Pr_bent_text (x y z : V) (H : Hp) (Q : VK) : Prop
 | mk (t L pk p0 p1 p2 pr b l) (_ : x = .str t) (_ : Zbl t) (_ : t.length <= L) (_ : L <= 900000) (_ : y = .ref pk) (_ : H pk = some (.lst (.int p0 :: .int p1 :: .int p2 :: pr))) (_ : pk ≠ b) (_ : z = .ref b) (_ : BagAt H b l) (_ : ∀ t' H', PutIn t t' -> t'.length <= L + 12 -> BagAt H' b l -> BSame b H H' -> Q (.str t') H') : Pr_bent_text x y z H Q
noncomputable def Zd7 : Sp := sp3 (Pr_bent_text)
theorem sc__law_bent_text : FnScope ["text", "pick", "bag", "at", "starts", "gone"] ["text", "pick", "bag"] (Zag ZaZ) := ⟨rfl, rfl, rfl, by decide +kernel, rfl, by decide +kernel, by decide +kernel⟩
theorem Zei (B : Blt mg) (T__law_bent_text : TopFn K mg "_law_bent_text" ZaZ ["text", "pick", "bag"]) (Zbh : Callee P w K mg base "_law_any_sign" 2 ["bag"] Zdm) (C_law_run : Callee P w K mg base "_law_run" 3 ["bag"] Zij) : Callee P w K mg base "_law_bent_text" 4 ["text", "pick", "bag"] Zd7 := by
 refine T__law_bent_text.ok3 sc__law_bent_text fun f cdv A outer s H v1 v2 v3 Q E hr h => ?_
 have nd := sc__law_bent_text.nd
 have hu := hr.units
 obtain ⟨t, L, pk, p0, p1, p2, pr, b, l, rfl, tasc, hL, hL9, rfl, hpk, npk, rfl, Bg, k⟩ := h
 have big : ∀ {n : Nat}, n <= 1000000 -> n <= PySem.sizeLine := fun h => by rw [PySem.sizeLine_eq]; lia
 refine' Zbd [some (.str t), some (.ref pk), some (.ref b), none, none, none] rfl ?hb ?hg
 case' hb => refine' Zac ?bab ?bac
 case' bab => refine' Za0 (i := 3) ?bad ?bae ?baf ?bag
 case bad => exact nd
 case bae => exact rfl
 case baf => exact (Or.inl rfl)
 case' bag => refine' Zam ?bah ?bai ?baj
 case bah => exact ZbM
 case bai => exact (Zax (k_ix (K := K) rfl) (pv 1) Zad (fun _ _ => rfl))
 case baj => exact (Zam Za7 (Zap (Zb9 (K := K) rfl) (by rfl) B.b_len Zbw (Zaa (pv 0) Zab)) Zad)
 case' bac => refine' Zac ?bak ?bal
 case' bak => refine' ZaL ?bam ?ban ?bao
 case bam => exact (Zal Zba (Zax (k_ix (K := K) rfl) (pv 1) Zad (fun _ _ => rfl)) Zad (Zao _))
 case' ban => refine' Zaf ?bap
 case' bap => refine' Zas ?baq
 case' baq => refine' Zam ?bar ?bas ?bat
 case bar => exact Zbj
 case' bas => refine' Zam ?bau ?bav ?baw
 case bau => exact Zbj
 case bav => exact (Zat ZcY (pv 0) ZaC (ZaB (pv 3)))
 case baw => exact (ZaG Zbh (hr.mono (by first | decide | lia)) (by rfl) (Zaa (pv 2) Zab))
 case bat => exact (Zat ZcY (pv 0) (ZaB (pv 3)) ZaC)
 case bao => exact Zaq
 case' bal => refine' Zac ?bax ?bay
 case' bax => refine' ZaL ?baz ?bba ?bbb
 case baz => exact (Zal Zba (Zax (k_ix (K := K) rfl) (pv 1) Zad (fun _ _ => rfl)) Zad (Zao _))
 case' bba => refine' Zaf ?bbc
 case bbc => exact (Zas (Zam Zbj (Zat ZcY (pv 0) ZaC (ZaB (pv 3))) (Zat ZcY (pv 0) (ZaB (Zam Za7 (pv 3) Zad)) ZaC)))
 case bbb => exact Zaq
 case' bay => refine' Zac ?bbd ?bbe
 case' bbd => refine' ZaL ?bbf ?bbg ?bbh
 case bbf => exact (Zal Zba (Zax (k_ix (K := K) rfl) (pv 1) Zad (fun _ _ => rfl)) Zad (Zao _))
 case' bbg => refine' Zaf ?bbi
 case' bbi => refine' Zas ?bbj
 case' bbj => refine' Zam ?bbk ?bbl ?bbm
 case bbk => exact Zbj
 case' bbl => refine' Zam ?bbn ?bbo ?bbp
 case bbn => exact Zbj
 case bbo => exact (Zat ZcY (pv 0) ZaC (ZaB (pv 3)))
 case bbp => exact (ZaG Zbh (hr.mono (by first | decide | lia)) (by rfl) (Zaa (pv 2) Zab))
 case bbm => exact (Zat ZcY (pv 0) (ZaB (Zam Za7 (pv 3) Zad)) ZaC)
 case bbh => exact Zaq
 case' bbe => refine' Zac ?bbq ?bbr
 case' bbq => refine' ZaL ?bbs ?bbt ?bbu
 case bbs => exact (Zal Zba (Zax (k_ix (K := K) rfl) (pv 1) Zad (fun _ _ => rfl)) Zad (Zao _))
 case' bbt => refine' Zac ?bbv ?bbw
 case' bbv => refine' Za0 (i := 4) ?bbx ?bby ?bbz ?bca
 case bbx => exact nd
 case bby => exact rfl
 case bbz => exact (Or.inl rfl)
 case' bca => refine' Zam ?bcb ?bcc ?bcd
 case bcb => exact ZbU
 case bcc => exact (Za4 (Zai Zad Zab))
 case' bcd => refine' ZcR (LN := ["k"]) (FN := ["text"]) (fr := [0]) ?bce ?bcf ?bcg ?bch ?bci ?bcj
 case bce => exact rfl
 case bcf => exact (ZdO (by rfl))
 case bcg => exact (Zbs rfl B.b_range (ZaJ (Zap (Zb9 (K := K) rfl) (by rfl) B.b_len Zbw (Zaa (pv 0) Zab)) Zab))
 case' bch => intro cl C fp pins s H
 case bch => exact (ZaE (i := 0) (show ((["k"] : List Str) ++ (["text"] : List Str)).Nodup by decide +kernel) rfl (Or.inl rfl))
 case' bci => intro cl C fp pins s H
 case bci => exact (ZiU (Zal Zba (Zax Zfg (pv 1) (pv 0) (fun _ _ => rfl)) Zan (Zao _)))
 case' bcj => intro cl C fp pins s H
 case bcj => exact (Zam Za7 (pv 0) Zad)
 case' bbw => refine' Zaf ?bck
 case' bck => refine' Zdq (i := 3) ?bcl ?bcm ?bcn ?bco
 case bcl => exact nd
 case bcm => exact rfl
 case bcn => exact (Or.inl rfl)
 case' bco => refine' Zax ?bcp ?bcq ?bcr ?bcs
 case bcp => exact (k_ix (K := K) rfl)
 case bcq => exact (pv 4)
 case' bcr => refine' Zam ?bct ?bcu ?bcv
 case bct => exact ZbM
 case bcu => exact (Zax (k_ix (K := K) rfl) (pv 1) Zad (fun _ _ => rfl))
 case bcv => exact (Zap (Zb9 (K := K) rfl) (by rfl) B.b_len Zbw (Zaa (pv 4) Zab))
 case bcs => exact (fun _ _ => rfl)
 case bbu => exact Zaq
 case' bbr => refine' Zac ?bcw ?bcx
 case' bcw => refine' Zdq (i := 5) ?bcy ?bcz ?bda ?bdb
 case bcy => exact nd
 case bcz => exact rfl
 case bda => exact (Or.inl rfl)
 case' bdb => refine' Zax ?bdc ?bdd ?bde ?bdf
 case bdc => exact (k_ix (K := K) rfl)
 case' bdd => refine' Za4 ?bdg
 case' bdg => refine' Zai ?bdh ?bdi
 case bdh => exact Zad
 case bdi => exact (Zai Zad (ZaW (Zam ZbM (Zam Zde (Zax (k_ix (K := K) rfl) (pv 1) Zad (fun _ _ => rfl)) Zad) Zad) Zab))
 case bde => exact (Zam ZbM (Zax (k_ix (K := K) rfl) (pv 1) Zad (fun _ _ => rfl)) Zad)
 case bdf => exact (fun _ _ => rfl)
 case' bcx => refine' Zaf ?bdj
 case' bdj => refine' Zas ?bdk
 case' bdk => refine' Zam ?bdl ?bdm ?bdn
 case bdl => exact Zbj
 case' bdm => refine' Zam ?bdo ?bdp ?bdq
 case bdo => exact Zbj
 case bdp => exact (Zat ZcY (pv 0) ZaC (ZaB (pv 3)))
 case bdq => exact (ZaG C_law_run (hr.mono (by first | decide | lia)) (by rfl) (Zaa (pv 2) Zab))
 case bdn => exact (Zat ZcY (pv 0) (ZaB (Zam Za7 (pv 3) (pv 5))) ZaC)
 walk_at "rd"
 refine Zak hpk (v := .int p1) (Zar (n := 1) rfl rfl) ?_
 walk_at "rd"
 refine Zdc (big (by lia)) ?_
 walk_at "rd"
 refine rd_I (by lia) ?_
 obtain ⟨a, ha⟩ : ∃ a : Nat, p1 % ((t.length : Int) + 1) = a := ⟨_, (Int.toNat_of_nonneg (Int.emod_nonneg _ (by lia))).symm⟩
 have hat : a <= t.length := by
  have := Int.emod_lt_of_pos p1 (show (0 : Int) < (t.length : Int) + 1 by lia)
  lia
 rw [ha]
 walk_at "rd"
 refine Zak hpk (v := .int p0) (Zar (n := 0) rfl rfl) ?_
 walk_at "rd"
 refine ZaH (fun _ => ?_) (fun _ => ?_)
 ·walk_at "rd"
  refine Zfv (by lia) (by lia) fun l1 => ?_
  walk_at "rd"
  refine use1 ⟨b, l, rfl, Bg, fun c H1 hc B1 b1 => ?_⟩
  refine Za9 (big (by rw [Zco]; lia)) ?_
  walk_at "rd"
  refine ZdC (by lia) (by lia) fun l2 => ?_
  refine Za9 (big (by rw [ZaU, Zco]; lia)) ?_
  exact k _ _ (put3 (by lia) (by rw [Zco]; decide) (Ze0 hc)) (by rw [ZaU, ZaU, Zco]; lia) B1 b1
 walk_at "rd"
 refine Zak hpk (v := .int p0) (Zar (n := 0) rfl rfl) ?_
 walk_at "rd"
 refine ZaH (fun _ => ?_) (fun _ => ?_)
 ·walk_at "rd"
  refine Zfv (by lia) (by lia) fun l1 => ?_
  walk_at "rd"
  refine ZdC (by lia) (by lia) fun l2 => ?_
  refine Za9 (big (by lia)) ?_
  exact k _ _ (put2 (by lia)) (by rw [ZaU]; lia) Bg (BSame.refl _ _)
 walk_at "rd"
 refine Zak hpk (v := .int p0) (Zar (n := 0) rfl rfl) ?_
 walk_at "rd"
 refine ZaH (fun _ => ?_) (fun _ => ?_)
 ·walk_at "rd"
  refine Zfv (by lia) (by lia) fun l1 => ?_
  walk_at "rd"
  refine use1 ⟨b, l, rfl, Bg, fun c H1 hc B1 b1 => ?_⟩
  refine Za9 (big (by rw [Zco]; lia)) ?_
  walk_at "rd"
  refine ZdC (by lia) (by lia) fun l2 => ?_
  refine Za9 (big (by rw [ZaU, Zco]; lia)) ?_
  exact k _ _ (put3 (by lia) (by rw [Zco]; decide) (Ze0 hc)) (by rw [ZaU, ZaU, Zco]; lia) B1 b1
 refine Zfw ?_
 try dsimp +zetaDelta only
 refine ZeA (fun σ Hx => Ex2 fun (a : Nat) (c4 : Option V) => An3 (σ = [some (.str t), some (.ref pk), some (.ref b), some (.int a), c4, none]) (a <= t.length) (Same H Hx)) ?_ fun N hN => ?_
 rotate_left
 ·walk_at "rd"
  refine Zak hpk (v := .int p0) (Zar (n := 0) rfl rfl) ?_
  walk_at "rd"
  refine ZaH (fun _ => ?_) (fun _ => ?_)
  ·walk_at "rd"
   walk_at "mk"; intro q1 hq1
   have s1 := Same.new (o := .lst [V.int 0]) hq1
   have e1 : upd H q1 (.lst [V.int 0]) q1 = some (.lst [V.int 0]) := Zae
   generalize upd H q1 (.lst [V.int 0]) = H1 at s1 e1
   walk_at "rd"
   refine Zdc (big (by lia)) ?_
   walk_at "rd"
   refine ZcJ (by lia) (by lia) ?_
   refine Zdh (n := ((t.length : Nat) : Int).toNat) (big (by lia)) (fun j ys σ Hz => An3 (∃ x1, σ = [x1, some (.str t)]) (Hz = H1) (∃ ms : List Nat, An3 (ys = ms.map (fun m : Nat => V.int (m : Int))) (∀ m ∈ ms, m <= j) (ms.length <= j))) ⟨⟨none, rfl⟩, rfl, [], rfl, by simp, Nat.le_refl _⟩ ?_ ?_
   ·rintro j ys σ Hz hj hle hlt ⟨⟨x1, rfl⟩, rfl, ms, rfl, hm, hml⟩
    have hjl : j < (cs t).length := by rw [ZaO]; lia
    walk_at "rd"
    refine ⟨t, _, (cs t)[j], rfl, rfl, big (by lia), Zar (n := j) (by simp) (List.getElem?_eq_getElem hjl), ?_⟩
    walk_at "rd"
    refine ZaH (fun _ => ?_) (fun _ => ?_)
    ·walk_at "rd"
     refine ⟨hlt, by simpa using hle, ⟨_, rfl⟩, rfl, ms ++ [j + 1], by simp, fun m hm' => ?_, by simp; lia⟩
     rcases List.mem_append.mp hm' with hm' | hm'
     ·have := hm m hm'; lia
     ·rw [List.mem_singleton.mp hm']; exact Nat.le_refl _
    ·exact ⟨by simpa using Nat.le_succ_of_le hle, ⟨_, rfl⟩, rfl, ms, rfl, fun m hm' => by have := hm m hm'; lia, by lia⟩
   rintro ys σ Hz _ ⟨⟨x1, rfl⟩, rfl, ms, rfl, hm, hml⟩ p3 hp3
   have s3 := Same.new (o := .lst (ms.map fun m : Nat => V.int (m : Int))) hp3
   have e3 : upd Hz p3 (.lst (ms.map fun m : Nat => V.int (m : Int))) p3 = some (.lst (ms.map fun m : Nat => V.int (m : Int))) := Zae
   generalize upd Hz p3 (.lst (ms.map fun m : Nat => V.int (m : Int))) = H3 at s3 e3
   refine Zhk (s3 _ _ e1) e3 (big (by simp; lia)) fun p4 hp4 => ?_
   have s4 := Same.new (o := .lst ([V.int 0] ++ ms.map fun m : Nat => V.int (m : Int))) hp4
   have e4 : upd H3 p4 (.lst ([V.int 0] ++ ms.map fun m : Nat => V.int (m : Int))) p4 = some (.lst ((0 :: ms).map fun m : Nat => V.int (m : Int))) := Zae
   generalize upd H3 p4 (.lst ([V.int 0] ++ ms.map fun m : Nat => V.int (m : Int))) = H4 at s4 e4
   have s14 := (s1.trans s3).trans s4
   walk_at "rd"
   refine Zak (s14 _ _ hpk) (v := .int p1) (Zar (n := 1) rfl rfl) ?_
   walk_at "rd"
   refine Zbk (SqL.of e4) ?_
   walk_at "rd"
   refine rd_I (by simp) ?_
   have hpos : (0 : Int) < (((0 :: ms).map fun m : Nat => V.int (m : Int)).length : Int) := by simp
   obtain ⟨i, hi⟩ : ∃ i : Nat, p1 % (((0 :: ms).map fun m : Nat => V.int (m : Int)).length : Int) = i := ⟨_, (Int.toNat_of_nonneg (Int.emod_nonneg _ (by lia))).symm⟩
   have hil : i < (0 :: ms).length := by
    have := Int.emod_lt_of_pos p1 hpos
    rw [hi, List.length_map] at this
    lia
   rw [hi]
   refine Zak e4 (v := .int ((0 :: ms)[i] : Nat)) (Zar (n := i) rfl (by rw [List.getElem?_map, List.getElem?_eq_getElem hil]; rfl)) ?_
   walk_at "rd"
   refine hN _ _ ⟨(0 :: ms)[i], _, rfl, ?_, s14⟩
   rcases List.mem_cons.mp (List.getElem_mem hil) with e | e
   ·rw [e]; exact Nat.zero_le _
   ·have := hm _ e; lia
  ·walk_at "rd"
   exact hN _ _ ⟨a, _, rfl, hat, Same.refl _⟩
 rintro σ Hx ⟨a, c4, rfl, hat, sx⟩
 walk_at "rd"
 refine Zak (sx _ _ hpk) (v := .int p2) (Zar (n := 2) rfl rfl) ?_
 walk_at "rd"
 refine rd_I (Zdi (by decide) (by decide +kernel)) ?_
 walk_at "rd"
 refine rd_I (by decide) ?_
 walk_at "rd"
 walk_at "mk"; intro q5 hq5
 have B5 := (Bg.mono sx).mono (Same.new (o := .lst [V.int 0, V.int 0, V.int (p2 / 3 % 13)]) hq5)
 have s5 := Same.new (o := .lst [V.int 0, V.int 0, V.int (p2 / 3 % 13)]) hq5
 have e5 : upd Hx q5 (.lst [V.int 0, V.int 0, V.int (p2 / 3 % 13)]) q5 = some (.lst [V.int 0, V.int 0, V.int (p2 / 3 % 13)]) := Zae
 generalize upd Hx q5 (.lst [V.int 0, V.int 0, V.int (p2 / 3 % 13)]) = H5 at s5 e5 B5
 have sx5 := sx.trans s5
 walk_at "rd"
 refine Zak (sx5 _ _ hpk) (v := .int p2) (Zar (n := 2) rfl rfl) ?_
 walk_at "rd"
 refine rd_I (by decide) ?_
 obtain ⟨g, hg, hge⟩ : ∃ g : Nat, g <= 12 /\ atI [V.int 0, V.int 0, V.int (p2 / 3 % 13)] (p2 % 3) = some (V.int (g : Int)) := by
  have h1 := Int.emod_nonneg p2 (show (3 : Int) ≠ 0 by decide)
  have h2 := Int.emod_lt_of_pos p2 (show (0 : Int) < 3 by decide)
  have h3 := Int.emod_nonneg (p2 / 3) (show (13 : Int) ≠ 0 by decide)
  have h4 := Int.emod_lt_of_pos (p2 / 3) (show (0 : Int) < 13 by decide)
  rcases (show p2 % 3 = 0 \/ p2 % 3 = 1 \/ p2 % 3 = 2 by lia) with e | e | e
  ·exact ⟨0, by decide, Zar (n := 0) (by rw [e]; rfl) rfl⟩
  ·exact ⟨0, by decide, Zar (n := 1) (by rw [e]; rfl) rfl⟩
  ·exact ⟨(p2 / 3 % 13).toNat, by lia, Zar (n := 2) (by rw [e]; rfl) (by simp; lia)⟩
 refine Zak e5 hge ?_
 walk_at "rd"
 refine Zfv (by lia) (by lia) fun l1 => ?_
 walk_at "rd"
 refine use1 ⟨b, l, rfl, B5, fun zr H6 az lz B6 b6 => ?_⟩
 refine Za9 (big (by lia)) ?_
 walk_at "rd"
 refine ZdC (by lia) (by lia) fun l2 => ?_
 refine Za9 (big (by rw [ZaU]; lia)) ?_
 exact k _ _ (put3 (by lia) lz az) (by rw [ZaU, ZaU]; lia) B6 ((BSame.of sx5).trans b6)
theorem ZkJ {wd ls : Str} (h : (wd, ls) ∈ lettersL) : ∃ ks, partsT.lookup wd = some ks /\ ks.length = ls.cps.size := by
 have hk : ∀ q ∈ lettersL, (partsT.lookup q.1).map List.length = some q.2.cps.size := by decide +kernel
 have := hk _ h
 cases e : partsT.lookup wd with
 | none => rw [show partsT.lookup (wd, ls).1 = none from e] at this; cases this
 | some ks => rw [show partsT.lookup (wd, ls).1 = some ks from e] at this; exact ⟨ks, rfl, Option.some.inj this⟩
theorem Zf8 {a b : Int} {qs : List Int} (ha : ZbC a) (hb : ZbC b) (hq : ∀ q ∈ qs, ZbC q) : RowR (Zb3, [.int a, .int b, .tup (qs.map D.int)]) /\ L2.Za2 (Zb3, [.int a, .int b, .tup (qs.map D.int)]) = a :: b :: qs := by
 have en : L2.Za2 (Zb3, [.int a, .int b, .tup (qs.map D.int)]) = a :: b :: qs := by
  show [a] ++ ([b] ++ ((qs.map D.int).flatMap intD ++ [])) = _
  rw [Zdf, List.append_nil]
  rfl
 refine ⟨⟨?_, ?_⟩, en⟩
 ·rw [en]
  have : partsT.lookup Zb3 = some (["box", "def", "boxes"] : List Str) := by decide +kernel
  unfold rowP
  rw [this]
  rfl
 ·rw [en]
  intro n hn
  rcases List.mem_cons.mp hn with rfl | hn
  ·exact ha
  ·rcases List.mem_cons.mp hn with rfl | hn
   ·exact hb
   ·exact hq n hn
theorem Zf7 {wd ls : Str} {ns : List Int} (h : (wd, ls) ∈ lettersL) (hc : wd ≠ Zb3) (hl : ns.length = ls.cps.size) (hn : ∀ n ∈ ns, ZbC n) : RowR (wd, ns.map D.int) /\ L2.Za2 (wd, ns.map D.int) = ns := by
 have en : L2.Za2 (wd, ns.map D.int) = ns := ZeK ns
 obtain ⟨ks, e, hk⟩ := ZkJ h
 refine ⟨⟨?_, by rw [en]; exact hn⟩, en⟩
 rw [en]
 unfold rowP
 rw [e]
 show (if wd = Zb3 then _ else _) = _
 rw [if_neg hc, if_pos (by rw [hl, hk])]
theorem no_q {wd ls : Str} (h : (wd, ls) ∈ lettersL) (hc : wd ≠ Zb3) : ∀ (i c : Nat), ls.cps[i]? = some c -> (⟨#[c]⟩ : Str) ≠ "q" := by
 have hk : ∀ q ∈ lettersL, q.1 ≠ Zb3 -> 113 ∉ q.2.cps.toList := by decide +kernel
 intro i c e z
 have h1 := congrArg cs z
 have h2 : [c] = [113] := h1.trans (by decide)
 refine hk _ h hc ?_
 rw [<- (List.cons.inj h2).1]
 exact Array.mem_toList_iff.mpr (Array.mem_of_getElem? e)
theorem ZmT {ls : Str} (h : (Zb3, ls) ∈ lettersL) : ls = "pfq" := by
 have hk : ∀ q ∈ lettersL, q.1 = Zb3 -> q.2 = "pfq" := by decide +kernel
 exact hk _ h rfl
theorem Zej {n : Int} (h0 : -1000 <= n) (h1 : n <= 1000) : ZbC n := by
 unfold ZbC
 lia
theorem Ziz {sg : List (Int × Int)} {bx many : Int} {r : Str × List D} (h : ZjT sg bx many r) (hb : bx <= 8) (S : SgOk sg) : RowR r /\ (L2.Za2 r).length <= 50 := by
  obtain ⟨ls, g⟩ := h
  by_cases hc : r.1 = Zb3
  · have tb := g.tab
    rw [hc] at tb
    obtain rfl := ZmT tb
    obtain ⟨d0, e0, g0⟩ := g.parts 0 112 rfl
    obtain ⟨d2, e2, g2⟩ := g.parts 2 113 rfl
    rcases g0 with ⟨_, n0, rfl, p0⟩ | ⟨z, _⟩
    · rcases g2 with ⟨z, _⟩ | ⟨_, args, f, tk, ef, et, rfl, ha, hq⟩
      · exact absurd rfl z
      · have l3 : r.2.length = 3 := g.len
        obtain ⟨w, ps⟩ := r
        obtain ⟨x, y, z, rfl⟩ : ∃ x y z, ps = [x, y, z] := by
          match ps, l3 with
          | [x, y, z], _ => exact ⟨x, y, z, rfl⟩
        cases e0
        cases e2
        cases ef
        obtain rfl : w = Zb3 := hc
        have ht := S.all tk (List.mem_of_getElem? et)
        have hf : f < 6 := by
          have := (List.getElem?_eq_some_iff.mp et).1
          have := S.few
          lia
        obtain ⟨k1, k2⟩ := Zf8 (a := n0) (b := f) (qs := args) p0.2.2.2.2 (Zej (by lia) (by lia)) (fun q hq' => Zej (by have := hq q hq'; lia) (by have := hq q hq'; lia))
        refine ⟨k1, ?_⟩
        rw [k2]
        simp only [List.length_cons]
        lia
    · exact absurd z (by decide)
  · have hints : ∀ d ∈ r.2, ∃ n, d = .int n /\ ZbC n := by
      intro d hd
      obtain ⟨i, hi⟩ := List.mem_iff_getElem?.mp hd
      have hi' : i < ls.cps.size := by rw [<- g.len]; exact (List.getElem?_eq_some_iff.mp hi).1
      obtain ⟨e, ee, ge⟩ := g.parts i ls.cps[i] (Array.getElem?_eq_getElem hi')
      rw [hi] at ee
      cases ee
      rcases ge with ⟨_, n, rfl, p⟩ | ⟨z, _⟩
      · exact ⟨n, rfl, p.2.2.2.2⟩
      · exact absurd z (no_q g.tab hc i _ (Array.getElem?_eq_getElem hi'))
    have : ∀ (l : List D), (∀ d ∈ l, ∃ n, d = .int n /\ ZbC n) -> ∃ ns : List Int, l = ns.map D.int /\ ∀ n ∈ ns, ZbC n := by
      intro l
      induction l with
      | nil => intro _; exact ⟨[], rfl, fun n hn => by cases hn⟩
      | cons d l ih =>
        intro h
        obtain ⟨n, rfl, hn⟩ := h d List.mem_cons_self
        obtain ⟨ns, rfl, hns⟩ := ih fun x hx => h x (List.mem_cons_of_mem _ hx)
        refine ⟨n :: ns, rfl, fun m hm => ?_⟩
        rcases List.mem_cons.mp hm with rfl | hm
        · exact hn
        · exact hns m hm
    obtain ⟨ns, ens, hns⟩ := this r.2 hints
    obtain ⟨w, ps⟩ := r
    obtain rfl : ps = ns.map D.int := ens
    have hl : ns.length = ls.cps.size := by
      have := g.len
      rwa [List.length_map] at this
    obtain ⟨k1, k2⟩ := Zf7 g.tab hc hl hns
    refine ⟨k1, ?_⟩
    rw [k2, hl]
    have := le3 g.tab
    lia
theorem ZmP {sg : List (Int × Int)} {ds : List PDef} (h : ProgOk sg ds) : ∀ d ∈ ds, DefT d /\ d.2.2.length <= 30 := by
 intro d hd
 have hq := h.sgs.all (d.1, d.2.1) (by rw [<- h.heads]; exact List.mem_map.mpr ⟨d, hd, rfl⟩)
 obtain ⟨many, m1, m2, R⟩ := h.rows d hd
 simp only at hq
 have hl := R.len
 exact ⟨⟨⟨Zej (by lia) (by lia), Zej (by lia) (by lia), fun r hr => (Ziz (R.all r hr) hq.2.2.2.2 h.sgs).1⟩, by lia, fun r hr => (Ziz (R.all r hr) hq.2.2.2.2 h.sgs).2⟩, by lia⟩
inductive Pr_wild_row (x : V) (H : Hp) (Q : VK) : Prop
 | mk (b l) (_ : x = .ref b) (_ : BagAt H b l) (_ : ∀ r v H', RowR r -> (L2.Za2 r).length <= 50 -> Rep H' (rowD r) v -> BagAt H' b l -> BSame b H H' -> Q v H') : Pr_wild_row x H Q
noncomputable def Zeu : Sp := sp1 (Pr_wild_row)
theorem sc__law_wild_row : FnScope ["bag", "word", "many", "args"] ["bag"] (Zag Za5) := ⟨rfl, rfl, rfl, by decide +kernel, rfl, by decide +kernel, by decide +kernel⟩
theorem ZeW (B : Blt mg) (T__law_wild_row : TopFn K mg "_law_wild_row" Za5 ["bag"]) (Zah : Callee P w K mg base "_law_draw" 1 ["bag", "many"] Zcb) (ZaF : Callee P w K mg base "_law_number" 2 ["bag"] ZcD) (Zaz : Callee P w K mg base "_law_letters" 1 [] Zcm) : Callee P w K mg base "_law_wild_row" 3 ["bag"] Zeu := by
 refine T__law_wild_row.ok1 sc__law_wild_row fun f cdv A outer s H v1 Q E hr h => ?_
 have nd := sc__law_wild_row.nd
 have hu1 := ZmG hr
 obtain ⟨b, l, rfl, Bg, k⟩ := h
 refine' Zbd [some (.ref b), none, none, none] rfl ?hb ?hg
 case' hb => refine' Zac ?bab ?bac
 case' bab => refine' Zdq (i := 1) ?bad ?bae ?baf ?bag
 case bad => exact nd
 case bae => exact rfl
 case baf => exact (Or.inl rfl)
 case' bag => refine' Zax ?bah ?bai ?baj ?bak
 case bah => exact (k_ix (K := K) rfl)
 case bai => exact (ZaS (ZdX rfl) (by rfl) B.b_list ZfX (ZaJ (Zfc Zaz (hr.mono (by first | decide | lia)) (by rfl)) Zab))
 case baj => exact (ZaG Zah (hr.mono (by first | decide | lia)) (by rfl) (Zaa (pv 0) (Zai Zad Zab)))
 case bak => exact (fun _ _ => rfl)
 case' bac => refine' Zac ?bal ?bam
 case' bal => refine' ZaL ?ban ?bao ?bap
 case ban => exact (Zal Zba (pv 1) Zan (Zao _))
 case' bao => refine' Zac ?baq ?bar
 case' baq => refine' Za0 (i := 2) ?bas ?bat ?bau ?bav
 case bas => exact nd
 case bat => exact rfl
 case bau => exact (Or.inl rfl)
 case' bav => refine' Zam ?baw ?bax ?bay
 case baw => exact Za7
 case bax => exact (ZaG Zah (hr.mono (by first | decide | lia)) (by rfl) (Zaa (pv 0) (Zai Zad Zab)))
 case' bay => refine' Zam ?baz ?bba ?bbb
 case baz => exact ZeH
 case bba => exact Zad
 case' bbb => refine' ZaS ?bbc ?bbd ?bbe ?bbf ?bbg
 case bbc => exact ZeV
 case bbd => exact (by rfl)
 case bbe => exact B.b_int
 case bbf => exact ZeZ
 case' bbg => refine' ZfG ?bbh ?bbi
 case bbh => exact (ZcS Zba (ZaG Zah (hr.mono (by first | decide | lia)) (by rfl) (Zaa (pv 0) (Zai Zad Zab))) Zad (Zao _))
 case bbi => exact Zab
 case' bar => refine' Zac ?bbj ?bbk
 case' bbj => refine' Zbx (i := 3) ?bbl ?bbm ?bbn ?bbo
 case bbl => exact nd
 case bbm => exact rfl
 case bbn => exact (Or.inl rfl)
 case' bbo => refine' ZaS ?bbp ?bbq ?bbr ?bbs ?bbt
 case bbp => exact (Zds (K := K) rfl)
 case bbq => exact (by rfl)
 case bbr => exact B.b_tuple
 case bbs => exact Zb5
 case' bbt => refine' Zdd ?bbu ?bbv
 case' bbu => refine' ZcR (LN := ["k"]) (FN := ["bag"]) (fr := [0]) ?bbw ?bbx ?bby ?bbz ?bca ?bcb
 case bbw => exact rfl
 case bbx => exact (ZdO (by rfl))
 case bby => exact (Zbs rfl B.b_range (Zaa (pv 2) Zab))
 case' bbz => intro cl C fp pins s H
 case bbz => exact (ZaE (i := 0) (show ((["k"] : List Str) ++ (["bag"] : List Str)).Nodup by decide +kernel) rfl (Or.inl rfl))
 case' bca => intro cl C fp pins s H
 case bca => exact Zcc
 case' bcb => intro cl C fp pins s H
 case bcb => exact (ZaG ZaF (hr.mono (by first | decide | lia)) (by rfl) (Zaa (pv 1) Zab))
 case bbv => exact Zab
 case' bbk => refine' Zaf ?bcc
 case' bcc => refine' Zas ?bcd
 case' bcd => refine' Zcx ?bce
 case' bce => refine' Zai ?bcf ?bcg
 case bcf => exact Zan
 case' bcg => refine' ZaJ ?bch ?bci
 case bch => exact (ZaG ZaF (hr.mono (by first | decide | lia)) (by rfl) (Zaa (pv 0) Zab))
 case bci => exact (ZaJ (ZaG ZaF (hr.mono (by first | decide | lia)) (by rfl) (Zaa (pv 0) Zab)) (Zaa (pv 3) Zab))
 case bap => exact Zaq
 case' bam => refine' Zaf ?bcj
 case' bcj => refine' Zas ?bck
 case' bck => refine' ZaS ?bcl ?bcm ?bcn ?bco ?bcp
 case bcl => exact (Zds (K := K) rfl)
 case bcm => exact (by rfl)
 case bcn => exact B.b_tuple
 case bco => exact Zb5
 case' bcp => refine' ZaW ?bcq ?bcr
 case' bcq => refine' Zam ?bcs ?bct ?bcu
 case bcs => exact ZbU
 case bct => exact (Za4 (Zaa (pv 1) Zab))
 case' bcu => refine' ZcR (LN := ["letter"]) (FN := ["bag"]) (fr := [0]) ?bcv ?bcw ?bcx ?bcy ?bcz ?bda
 case bcv => exact rfl
 case bcw => exact (ZdO (by rfl))
 case bcx => exact (Zem (K := K) rfl (ZiY hu1 (Zfc Zaz (hr.mono (by first | decide | lia)) (by rfl)) (pv 1) (fun _ _ => rfl)))
 case' bcy => intro cl C fp pins s H
 case bcy => exact (ZaE (i := 0) (show ((["letter"] : List Str) ++ (["bag"] : List Str)).Nodup by decide +kernel) rfl (Or.inl rfl))
 case' bcz => intro cl C fp pins s H
 case bcz => exact Zcc
 case' bda => intro cl C fp pins s H
 case bda => exact (ZaG ZaF (hr.mono (by first | decide | lia)) (by rfl) (Zaa (pv 1) Zab))
 case bcr => exact Zab
 walk_at "rd"
 refine use0 (b := fun H Q => ∀ p H', H p = none -> H' p = some (.dK lettersKV) -> Same H H' -> Q (.ref p) H') fun pd H1 hpd hd s1 => ?_
 walk_at "rd"
 refine ⟨pd, lettersKV, rfl, hd, fun pl hpl => ?_⟩
 have s2 := Same.new (o := .lst (lettersKV.map fun q => kV q.1)) hpl
 have e2 : upd H1 pl (.lst (lettersKV.map fun q => kV q.1)) pl = some (.lst (lettersKV.map fun q => kV q.1)) := Zae
 generalize upd H1 pl (.lst (lettersKV.map fun q => kV q.1)) = H2 at s2 e2
 have B2 := (Bg.mono s1).mono s2
 have npl : pl ≠ b := fun z => ((Bg.mono s1).ne hpl).1 z.symm
 walk_at "rd"
 refine use2 ⟨b, l, 12, rfl, rfl, ⟨by decide, by decide⟩, B2, fun r H3 r0 r1 B3 b3 => ?_⟩
 obtain ⟨r, rfl⟩ := Int.eq_ofNat_of_zero_le r0
 have hr12 : r < lettersL.length := by
  have : lettersL.length = 12 := rfl
  lia
 have ew : (lettersKV.map fun q => kV q.1)[r]? = some (V.str lettersL[r].1) := by
  unfold lettersKV
  rw [List.map_map, List.getElem?_map, List.getElem?_eq_getElem hr12]
  rfl
 have hmem : lettersL[r] ∈ lettersL := List.getElem_mem hr12
 refine Zak (b3 _ _ npl e2) (Zar (n := r) rfl ew) ?_
 generalize lettersL[r] = wl at hmem ew
 obtain ⟨wd, lt⟩ := wl
 have b03 : BSame b H H3 := ((BSame.of s1).trans (BSame.of s2)).trans b3
 walk_at "rd"
 refine ZaH (fun hc => ?_) (fun hc => ?_)
 ·walk_at "rd"
  refine use2 ⟨b, l, 7, rfl, rfl, ⟨by decide, by decide⟩, B3, fun r4 H4 a4 c4 B4 b4 => ?_⟩
  walk_at "rd"
  refine use2 ⟨b, l, 16, rfl, rfl, ⟨by decide, by decide⟩, B4, fun r5 H5 a5 c5 B5 b5 => ?_⟩
  walk_at "rd"
  refine rd_I (ZeU (by decide +kernel) (by split <;> decide +kernel)) ?_
  walk_at "rd"
  generalize hmany : r4 + 32 * (if decide (r5 = 7) = true then 1 else 0) = many
  have hm : 0 <= many /\ many <= 38 := by
   rw [<- hmany]
   split <;> lia
  refine ZcJ (by lia) (by lia) ?_
  refine Zdh (n := many.toNat) (Zcg (by lia)) (fun j ys σ Hy => (∃ x1, σ = [x1, some (.ref b)]) /\ ∃ zs : List Int, An5 (ys = zs.map V.int) (zs.length = j) (∀ z ∈ zs, ZbC z) (BagAt Hy b l) (BSame b H5 Hy)) ⟨⟨none, rfl⟩, [], rfl, rfl, by simp, B5, BSame.refl _ _⟩ ?_ ?_
  ·rintro j ys σ Hy hj hle hlt ⟨⟨x1, rfl⟩, zs, rfl, hz, hb, By, bY⟩
   walk_at "rd"
   refine use1 ⟨b, l, rfl, By, fun n H6 g0 B6 b6 => ?_⟩
   refine ⟨hlt, by simpa using hle, ⟨_, rfl⟩, zs ++ [n], by simp, by simp [hz], fun z hz' => ?_, B6, bY.trans b6⟩
   rcases List.mem_append.mp hz' with hz' | hz'
   ·exact hb z hz'
   ·rw [List.mem_singleton.mp hz']; exact g0
  rintro ys σ Hy _ ⟨⟨x1, rfl⟩, zs, rfl, hz, hb, By, bY⟩ p6 hp6
  have s6 := Same.new (o := .lst (zs.map V.int)) hp6
  have e6 : upd Hy p6 (.lst (zs.map V.int)) p6 = some (.lst (zs.map V.int)) := Zae
  generalize upd Hy p6 (.lst (zs.map V.int)) = H6 at s6 e6
  walk_at "rd"
  refine Zdn (SqL.of e6) fun p7 hp7 => ?_
  have B7 := (By.mono s6).mono (Same.new (o := .tup (zs.map V.int)) hp7)
  have n7 := ((By.mono s6).ne hp7).1
  have s7 := Same.new (o := .tup (zs.map V.int)) hp7
  have e7 : upd H6 p7 (.tup (zs.map V.int)) p7 = some (.tup (zs.map V.int)) := Zae
  generalize upd H6 p7 (.tup (zs.map V.int)) = H7 at s7 e7 B7
  walk_at "rd"
  refine use1 ⟨b, l, rfl, B7, fun n8 H8 g8 B8 b8 => ?_⟩
  walk_at "rd"
  refine use1 ⟨b, l, rfl, B8, fun n9 H9 g9 B9 b9 => ?_⟩
  walk_at "rd"
  walk_at "mk"; intro pa hpa
  have sa := Same.new (o := .tup [V.str "call", V.int n8, V.int n9, V.ref p7]) hpa
  obtain ⟨k1, k2⟩ := Zf8 (a := n8) (b := n9) (qs := zs) g8 g9 hb
  refine k _ (.ref pa) _ k1 (by rw [k2]; simp only [List.length_cons]; lia) ?_ (B9.mono sa) (((((((b03.trans b4).trans b5).trans bY).to s6).to s7).trans (b8.trans b9)).to sa)
  refine ZbY Zae (Zau (by rw [Rep]; rfl) (Zau ZbZ (Zau ZbZ (Zau (ZbY (sa _ _ ?_) (Zc8 zs)) ZaT))))
  exact (b8.trans b9) _ _ (Ne.symm n7) e7
 ·walk_at "rd"
  walk_at "mk"; intro p4 hp4
  have B4 := B3.mono (Same.new (o := .lst [V.str wd]) hp4)
  have n4 := (B3.ne hp4).1
  have s4 := Same.new (o := .lst [V.str wd]) hp4
  have e4 : upd H3 p4 (.lst [V.str wd]) p4 = some (.lst [V.str wd]) := Zae
  generalize upd H3 p4 (.lst [V.str wd]) = H4 at s4 e4 B4
  walk_at "rd"
  refine ZfA ?_
  walk_at "rd"
  refine use0 (b := fun H Q => ∀ p H', H p = none -> H' p = some (.dK lettersKV) -> Same H H' -> Q (.ref p) H') fun pd5 H5 hpd5 hd5 s5 => ?_
  walk_at "rd"
  refine ⟨pd5, _, rfl, (ZeN hmem) ▸ DGet.k (k := Sum.inr wd) hd5, ?_⟩
  refine ⟨lt, rfl, Zfd _ hmem, ?_⟩
  have hlt3 := le3 hmem
  have B5 := B4.mono s5
  refine ZjB (Zcg (by lia)) (fun j ys σ Hy => (∃ x1, σ = [x1, some (.ref b)]) /\ ∃ zs : List Int, An5 (ys = zs.map V.int) (zs.length = j) (∀ z ∈ zs, ZbC z) (BagAt Hy b l) (BSame b H5 Hy)) ⟨⟨none, rfl⟩, [], rfl, rfl, by simp, B5, BSame.refl _ _⟩ ?_ ?_
  ·rintro j c ys σ Hy hj hle hlt ⟨⟨x1, rfl⟩, zs, rfl, hz, hb, By, bY⟩
   walk_at "rd"
   refine use1 ⟨b, l, rfl, By, fun n H6 g0 B6 b6 => ?_⟩
   refine ⟨hlt, by simpa using hle, ⟨_, rfl⟩, zs ++ [n], by simp, by simp [hz], fun z hz' => ?_, B6, bY.trans b6⟩
   rcases List.mem_append.mp hz' with hz' | hz'
   ·exact hb z hz'
   ·rw [List.mem_singleton.mp hz']; exact g0
  rintro ys σ Hy _ ⟨⟨x1, rfl⟩, zs, rfl, hz, hb, By, bY⟩ p6 hp6
  have s6 := Same.new (o := .lst (zs.map V.int)) hp6
  have e6 : upd Hy p6 (.lst (zs.map V.int)) p6 = some (.lst (zs.map V.int)) := Zae
  have B6 := By.mono s6
  generalize upd Hy p6 (.lst (zs.map V.int)) = H6 at s6 e6 B6
  refine Zhk (s6 _ _ (bY _ _ (Ne.symm n4) (s5 _ _ e4))) e6 (Zc2 (by simp; lia)) fun p7 hp7 => ?_
  have s7 := Same.new (o := .lst ([V.str wd] ++ zs.map V.int)) hp7
  have e7 : upd H6 p7 (.lst ([V.str wd] ++ zs.map V.int)) p7 = some (.lst ([V.str wd] ++ zs.map V.int)) := Zae
  have B7 := B6.mono s7
  generalize upd H6 p7 (.lst ([V.str wd] ++ zs.map V.int)) = H7 at s7 e7 B7
  walk_at "rd"
  refine Zdn (SqL.of e7) fun p8 hp8 => ?_
  have s8 := Same.new (o := .tup ([V.str wd] ++ zs.map V.int)) hp8
  obtain ⟨k1, k2⟩ := Zf7 (ns := zs) hmem hc (by rw [hz]) hb
  refine k _ (.ref p8) _ k1 (by rw [k2, hz]; lia) ?_ (B7.mono s8) ((((((b03.to s4).to s5).trans bY).to s6).to s7).to s8)
  exact ZbY Zae (Zau (by rw [Rep]) (Zc8 zs))
inductive Pr_wild (x : V) (H : Hp) (Q : VK) : Prop
 | mk (b l) (_ : x = .ref b) (_ : BagAt H b l) (_ : ∀ ds q vs H', ds ≠ [] -> ds.length <= 8 -> (∀ d ∈ ds, DefT d /\ d.2.2.length <= 30) -> H q = none -> q ≠ b -> H' q = some (.lst vs) -> DefsAt [b, q] H' ds vs -> BagAt H' b l -> BSame b H H' -> Q (.ref q) H') : Pr_wild x H Q
noncomputable def Zlz : Sp := sp1 (Pr_wild)
theorem sc__law_wild : FnScope ["bag", "program", "k", "takes", "boxes", "many"] ["bag"] (Zag ZbF) := ⟨rfl, rfl, rfl, by decide +kernel, rfl, by decide +kernel, by decide +kernel⟩
theorem ZgU (B : Blt mg) (T__law_wild : TopFn K mg "_law_wild" ZbF ["bag"]) (Zah : Callee P w K mg base "_law_draw" 1 ["bag", "many"] Zcb) (ZaF : Callee P w K mg base "_law_number" 2 ["bag"] ZcD) (ZcB : Callee P w K mg base "_law_wild_row" 3 ["bag"] Zeu) : Callee P w K mg base "_law_wild" 4 ["bag"] Zlz := by
 refine T__law_wild.ok1 sc__law_wild fun f cdv A outer s H v1 Q E hr h => ?_
 have nd := sc__law_wild.nd
 obtain ⟨b, l, rfl, Bg, k⟩ := h
 refine' Zbd [some (.ref b), none, none, none, none, none] rfl ?hb ?hg
 case' hb => refine' Zac ?bab ?bac
 case bab => exact (Zb0 (i := 1) nd rfl (Or.inl rfl) (Za4 Zab))
 case' bac => refine' Zac ?bad ?bae
 case' bad => refine' Zb8 ?baf ?bag ?bah ?bai ?baj
 case baf => exact PassesOwn.never
 case bag => exact rfl
 case' bah => refine' Zbs ?bak ?bal ?bam
 case bak => exact rfl
 case bal => exact B.b_range
 case bam => exact (ZaW (Zam Za7 Zad (ZaG Zah (hr.mono (by first | decide | lia)) (by rfl) (Zaa (pv 0) (Zai Zad Zab)))) Zab)
 case bai => exact (ZaE (i := 2) nd rfl (Or.inl rfl))
 case' baj => refine' Zac ?ban ?bao
 case ban => exact (Zbx (i := 3) nd rfl (Or.inl rfl) (ZaG ZaF (hr.mono (by first | decide | lia)) (by rfl) (Zaa (pv 0) Zab)))
 case' bao => refine' Zac ?bap ?baq
 case bap => exact (Zbx (i := 4) nd rfl (Or.inl rfl) (ZaG ZaF (hr.mono (by first | decide | lia)) (by rfl) (Zaa (pv 0) Zab)))
 case' baq => refine' Zac ?bar ?bas
 case' bar => refine' Za0 (i := 5) ?bat ?bau ?bav ?baw
 case bat => exact nd
 case bau => exact rfl
 case bav => exact (Or.inl rfl)
 case' baw => refine' Zam ?bax ?bay ?baz
 case bax => exact Za7
 case bay => exact (ZaG Zah (hr.mono (by first | decide | lia)) (by rfl) (Zaa (pv 0) (Zai Zad Zab)))
 case' baz => refine' Zam ?bba ?bbb ?bbc
 case bba => exact Zde
 case bbb => exact (Zap (Zb9 (K := K) rfl) (by rfl) B.b_len Zbw (Za1 (Zax (k_ix (K := K) rfl) (pv 0) Zad (fun _ _ => rfl)) Zab))
 case bbc => exact Zad
 case' bas => refine' Zaf ?bbd
 case' bbd => refine' ZbL ?bbe
 case' bbe => refine' k_bm (K := K) ?bbf ?bbg ?bbh ?bbi ?bbj ?bbk ?bbl
 case bbf => exact rfl
 case bbg => exact PySem.F.plainAttrs_list
 case bbh => exact PySem.F.slot_list_append
 case bbi => exact PySem.F.type_list_append
 case bbj => exact Zbb
 case bbk => exact (pv 1)
 case' bbl => refine' ZdF ?bbm ?bbn
 case' bbm => refine' Zcx ?bbo
 case' bbo => refine' Zaa ?bbp ?bbq
 case bbp => exact (pv 3)
 case' bbq => refine' Zaa ?bbr ?bbs
 case bbr => exact (pv 4)
 case' bbs => refine' Zdd ?bbt ?bbu
 case' bbt => refine' ZcR (LN := ["j"]) (FN := ["bag"]) (fr := [0]) ?bbv ?bbw ?bbx ?bby ?bbz ?bca
 case bbv => exact rfl
 case bbw => exact (ZdO (by rfl))
 case bbx => exact (Zbs rfl B.b_range (Zaa (pv 5) Zab))
 case' bby => intro cl C fp pins s H
 case bby => exact (ZaE (i := 0) (show ((["j"] : List Str) ++ (["bag"] : List Str)).Nodup by decide +kernel) rfl (Or.inl rfl))
 case' bbz => intro cl C fp pins s H
 case bbz => exact Zcc
 case' bca => intro cl C fp pins s H
 case bca => exact (ZaG ZcB (hr.mono (by first | decide | lia)) (by rfl) (Zaa (pv 1) Zab))
 case bbu => exact Zab
 case bbn => exact Zab
 case bae => exact (Zaf (Zas (pv 1)))
 walk_at "rd"
 walk_at "mk"; intro q hq
 have s0 := Same.new (o := .lst []) hq
 have nqb : q ≠ b := fun z => (Bg.ne hq).1 z.symm
 have nql : q ≠ l := fun z => (Bg.ne hq).2 z.symm
 walk_at "rd"
 refine use2 ⟨b, l, 8, rfl, rfl, ⟨by decide, by decide⟩, Bg.mono s0, fun n1 H1 g0 g1 B1 b1 => ?_⟩
 walk_at "rd"
 refine ZcJ (by lia) (by lia) ?_
 refine Zc9 (n := (1 + n1).toNat) (fun i σ Hx => Ex6 fun ds vs x2 x3 x4 x5 => An7 (σ = [some (.ref b), some (.ref q), x2, x3, x4, x5]) (Hx q = some (.lst vs)) (DefsAt [b, q] Hx ds vs) (ds.length = i) (∀ d ∈ ds, DefT d /\ d.2.2.length <= 30) (BagAt Hx b l) (BSame b H Hx))
  ⟨[], [], none, none, none, none, rfl, b1 _ _ nqb Zae, rfl, rfl, by simp, B1, ((BSame.refl b H).to s0).trans b1⟩ ?_ ?_
 ·rintro i σ Hx hi ⟨ds, vs, x2, x3, x4, x5, rfl, hqx, da, hl, ok, Bx, bx⟩
  have hdl := da.length
  walk_at "rd"
  refine use1 ⟨b, l, rfl, Bx, fun tk H2 t0 B2 b2 => ?_⟩
  walk_at "rd"
  refine use1 ⟨b, l, rfl, B2, fun bo H3 t1 B3 b3 => ?_⟩
  walk_at "rd"
  refine use2 ⟨b, l, 4, rfl, rfl, ⟨by decide, by decide⟩, B3, fun m4 H4 h0 h1 B4 b4 => ?_⟩
  obtain ⟨cs', ci, cm, cst, cc, hb4, hl4, _, _, _, _, hcs⟩ := B4.ex
  walk_at "rd"
  refine Zak (v := .ref l) hb4 rfl ?_
  walk_at "rd"
  refine Zbk (SqL.of hl4) ?_
  walk_at "rd"
  refine rd_I (Zdi (by decide) (by decide +kernel)) ?_
  rw [List.length_map]
  walk_at "rd"
  have b24 : BSame b Hx H4 := (b2.trans b3).trans b4
  have hq4 := b24 _ _ nqb hqx
  refine ⟨.inl ⟨rfl, vs, SqL.of hq4⟩, ?_⟩
  walk_at "rd"
  generalize hmany : m4 + (cs'.length : Int) / 16 = many
  have hm : 0 <= many /\ many <= 30 := by lia
  refine ZcJ (by lia) (by lia) ?_
  refine Zdh (n := many.toNat) (Zcg (by lia)) (fun j ys σ Hy => (∃ x1, σ = [x1, some (.ref b)]) /\ ∃ rs : List (Str × List D), An5 (Reps Hy (rs.map rowD) ys) (rs.length = j) (∀ r ∈ rs, RowR r /\ (L2.Za2 r).length <= 50) (BagAt Hy b l) (BSame b H4 Hy)) ⟨⟨none, rfl⟩, [], ZaT, rfl, by simp, B4, BSame.refl _ _⟩ ?_ ?_
  ·rintro j ys σ Hy hj hle hlt ⟨⟨x1, rfl⟩, rs, rr, hz, hb, By, bY⟩
   walk_at "rd"
   refine use1 ⟨b, l, rfl, By, fun r v H6 r6 n6 v6 B6 b6 => ?_⟩
   refine ⟨hlt, by simpa using hle, ⟨_, rfl⟩, rs ++ [r], ?_, by simp [hz], fun z hz' => ?_, B6, bY.trans b6⟩
   ·rw [List.map_append]
    exact Reps.append (rr.mono (b6.ts By)) (Zau v6 ZaT)
   ·rcases List.mem_append.mp hz' with hz' | hz'
    ·exact hb z hz'
    ·rw [List.mem_singleton.mp hz']; exact ⟨r6, n6⟩
  rintro ys σ Hy _ ⟨⟨x1, rfl⟩, rs, rr, hz, hb, By, bY⟩ p6 hp6
  have n6 : p6 ≠ b := fun z => (By.ne hp6).1 z.symm
  have hqy := bY _ _ nqb hq4
  have nq6 : p6 ≠ q := fun e => by rw [e, hqy] at hp6; cases hp6
  have s6 := Same.new (o := .lst ys) hp6
  have e6 : upd Hy p6 (.lst ys) p6 = some (.lst ys) := Zae
  have B6 := By.mono s6
  have rr6 := rr.mono s6.ts
  generalize upd Hy p6 (.lst ys) = H6 at s6 e6 B6 rr6
  walk_at "rd"
  walk_at "mk"; intro t7 ht7
  have s7 := Same.new (o := .tup [V.int tk, V.int bo, V.ref p6]) ht7
  have e7 : upd H6 t7 (.tup [V.int tk, V.int bo, V.ref p6]) t7 = some (.tup [V.int tk, V.int bo, V.ref p6]) := Zae
  have B7 := B6.mono s7
  have rr7 := rr6.mono s7.ts
  generalize upd H6 t7 (.tup [V.int tk, V.int bo, V.ref p6]) = H7 at s7 e7 B7 rr7
  have hq7 := (s6.trans s7) _ _ hqy
  walk_at "rd"
  refine ZaV hq7 (Nat.lt_of_le_of_lt (show vs.length <= 1000 by lia) (by decide)) ?_
  walk_at "rd"
  have tw : TSame H7 (upd H7 q (.lst (vs ++ [V.ref t7]))) := TSame.wr (fun zs z => by rw [hq7] at z; cases z)
  have d7 : DefsAt [b, q] (upd H7 q (.lst (vs ++ [V.ref t7]))) ds vs := ((((da.bs b24 Bx (by simp)).bs bY B4 (by simp)).mono (s6.trans s7)).wr (by simp) hq7)
  refine ⟨ds ++ [(tk, bo, rs)], vs ++ [V.ref t7], _, _, _, _, rfl, Zae, d7.append ⟨V.ref t7, [], rfl, ⟨t7, p6, ys, rfl, tw _ _ e7, by rw [Zaw nq6]; exact s7 _ _ e6, by simp [n6, nq6], rr7.mono tw⟩, rfl⟩, by simp [hl], fun d hd => ?_, B7.wr (Ne.symm nqb) (Ne.symm nql), ((((bx.trans b24).trans bY).to s6).to s7).wrNew hq⟩
  ·rcases List.mem_append.mp hd with hd | hd
   ·exact ok d hd
   ·rw [List.mem_singleton.mp hd]
    exact ⟨⟨⟨t0, t1, fun r hr => (hb r hr).1⟩, by show rs.length <= 400; lia, fun r hr => (hb r hr).2⟩, by show rs.length <= 30; lia⟩
 ·rintro σ Hx ⟨ds, vs, x2, x3, x4, x5, rfl, hqx, da, hl, ok, Bx, bx⟩
  walk_at "rd"
  exact k ds q vs Hx (fun e => by rw [e] at hl; simp at hl; lia) (by lia) ok hq nqb hqx da Bx bx
inductive Pr_lread (x : V) (H : Hp) (Q : VK) : Prop
 | mk (z) (_ : x = .str z) (_ : z.length <= 900000) (_ : Zbl z) (_ : ∀ ds p q e H1 H', Zc3 z = some ds -> Same H H1 -> NewPg H1 H' q ds -> H' p = some (.tup [.ref q, .ref e]) -> H' e = some (.lst []) -> Q (.ref p) H') (_ : ∀ p q H', Zc3 z = none -> H' p = some (.tup [.non, .ref q]) -> H' q = some (.lst [.bl true, .bl true, .bl false]) -> Same H H' -> Q (.ref p) H') : Pr_lread x H Q
noncomputable def Zj7 : Sp := sp1 (Pr_lread)
theorem sc__law_read : FnScope ["text", "found", "told", "e"] ["text"] (Zag ZbH) := ⟨rfl, rfl, rfl, by decide +kernel, rfl, by decide +kernel, by decide +kernel⟩
theorem ZgW {Zaj ZaA Zav ZaX : Addr} (B : Blt mg) (HX : ExH K mg Zaj ZaA Zav ZaX) (T__law_read : TopFn K mg "_law_read" ZbH ["text"]) (Cread : CalleeX P w K mg base Zaj "read" 3 ["text"] (Zil Zaj)) : Callee P w K mg base "_law_read" 4 ["text"] Zj7 := by
 refine T__law_read.ok1 sc__law_read fun f cdv A outer s H v1 Q E hr h => ?_
 have nd := sc__law_read.nd
 obtain ⟨z, rfl, hz, az, k1, k2⟩ := h
 refine' Zbd [some (.str z), none, none, none] rfl ?hb ?hg
 case' hb => refine' Zac ?bab ?bac
 case bab => exact (Zcw (i := 1) nd rfl (Or.inl rfl) ZbW)
 case' bac => refine' Zac ?bad ?bae
 case bad => exact (Zb0 (i := 2) nd rfl (Or.inl rfl) (Za4 Zab))
 case' bae => refine' Zac ?baf ?bag
 case' baf => refine' Zmh (i := 1) (j := 3) ?bah ?bai ?baj ?bak ?bal ?bam ?ban ?bao ?bap ?baq ?bar ?bas ?bat ?bau ?bav ?baw ?bax
 case bah => exact Cread
 case bai => exact (hr.mono (by first | decide | lia))
 case baj => exact rfl
 case bak => exact rfl
 case bal => exact nd
 case bam => exact rfl
 case ban => exact (Or.inl rfl)
 case bao => exact (Or.inl rfl)
 case bap => exact rfl
 case baq => exact rfl
 case bar => exact rfl
 case bas => exact (by rfl)
 case bat => exact (Zaa (pv 0) Zab)
 case bau => exact (by rfl)
 case bav => exact HX.m_LaneError
 case baw => exact HX.x_LaneError
 case bax => exact (fun a oe hc hd => (Zaf (Zb0 (i := 2) nd rfl (Or.inl rfl) (Za4 (ZaJ (Zap (ZdN rfl hc HX.k) (by rfl) B.b_isinstance ZaD (Zaa (pv 3) (Zaa (Zcd (v := .ty "ValueError") (by rfl) B.b_ValueError ZfY rfl) Zab))) (ZaJ (Zap (ZdN rfl hc HX.k) (by rfl) B.b_isinstance ZaD (Zaa (pv 3) (Zaa (ZeE (v := .ref Zaj) (by rfl) HX.m_NoText rfl) Zab))) (ZkB (pe_or (Zap (ZdN rfl hc HX.k) (by rfl) B.b_isinstance ZaD (Zaa (pv 3) (Zaa (ZeE (v := .ref Zav) (by rfl) HX.m_NotFormed rfl) Zab))) (Zhm (Zap (ZdN rfl hc HX.k) (by rfl) B.b_isinstance ZaD (Zaa (pv 3) (Zaa (ZeE (v := .ref ZaX) (by rfl) HX.m_Faulty rfl) Zab))))) Zab)))))))
 case bag => exact (Zaf (Zas (Zcx (Zaa (pv 1) (Zaa (pv 2) Zab)))))
 walk_at "rd"
 walk_at "mk"; intro q hq
 have s0 := Same.new (o := .lst []) hq
 have e0 : upd H q (.lst []) q = some (.lst []) := Zae
 generalize upd H q (.lst []) = H0 at s0 e0
 walk_at "rd"
 refine Zlu ⟨z, rfl, hz, az, fun ds hw pq H1 np => ?_, fun hw H1 s1 a ha => ?_⟩
 ·walk_at "rd"
  walk_at "mk"; intro p hp
  have s2 := Same.new (o := .tup [V.ref pq, V.ref q]) hp
  refine k1 ds p pq q H0 _ hw s0 ⟨np.1, ?_⟩ Zae (s2 _ _ (np.same _ _ e0))
  obtain ⟨_, vs, ls, I⟩ := np
  exact ⟨vs, ls, I.mono s2⟩
 ·walk_at "rd"
  refine ZlY HX.kV ?_
  walk_at "rd"
  refine ZiI HX.k.kc (fun z => by cases z) ?_
  walk_at "rd"
  refine ZiI HX.kN (fun _ => HX.nN) ?_
  walk_at "rd"
  refine ZiI HX.kF (fun _ => HX.nF) ?_
  walk_at "rd"
  walk_at "mk"; intro p2 hp2
  have s2 := Same.new (o := .lst [V.bl true, V.bl true, V.bl false]) hp2
  have e2 : upd H1 p2 (.lst [V.bl true, V.bl true, V.bl false]) p2 = some (.lst [V.bl true, V.bl true, V.bl false]) := Zae
  generalize upd H1 p2 (.lst [V.bl true, V.bl true, V.bl false]) = H2 at s2 e2
  walk_at "rd"
  walk_at "mk"; intro p hp
  have s3 := Same.new (o := .tup [V.non, V.ref p2]) hp
  exact k2 p p2 _ hw Zae (s3 _ _ e2) (((s0.trans s1).trans s2).trans s3)
noncomputable def valV (o : Option Int) : V := match o with
 | none => .non
 | some n => .int n
inductive Pr_value (x y : V) (H : Hp) (Q : VK) : Prop
 | mk (z most) (_ : x = .str z) (_ : y = .int (most : Nat)) (_ : most <= 600) (_ : z.length <= 900000) (_ : Zbl z) (_ : ∀ H', Same H H' -> Q (valV (ZaM most z)) H') : Pr_value x y H Q
noncomputable def Zfs : Sp := sp2 (Pr_value)
theorem ZeL (z : Str) (hz : z.length <= 900000) : Txt.slice z none (some 1) = Str.ofString "-" ↔ (cs z).head? = some 45 := by
  have hl := ZaO z
  cases hc : cs z with
  | nil =>
    constructor
    · intro h
      have h2 := Zhf (z := z) (l := none) (u := some 1) (k := 0) (Nat.le_trans (sliceIndices_le none (some 1) z.length) (by rw [hc] at hl; simp at hl; lia))
      rw [h] at h2
      exact absurd h2 (by decide)
    · intro h; cases h
  | cons c r =>
    have hlen : 1 <= z.length := by rw [hc] at hl; simp at hl; lia
    have e : cs (Txt.slice z none (some 1)) = [c] := by
      have := PyProof.Rows.slice_closes_to (x := z) (j := 1) ⟨by decide, by have : z.cps.toList.length = z.length := hl; lia⟩
      rw [beq_iff_eq.mp this]
      show ((z.cps.toList.drop 0).take 1) = [c]
      rw [show z.cps.toList = c :: r from hc]
      rfl
    constructor
    · intro h
      have h2 := congrArg cs h
      rw [e] at h2
      have h3 : [c] = [45] := h2.trans (by decide)
      rw [(List.cons.inj h3).1]
      rfl
    · intro h
      cases h
      exact ZdM (by rw [e]; decide)
theorem sc__law_value : FnScope ["text", "most", "figures"] ["text", "most"] (Zag Zbu) := ⟨rfl, rfl, rfl, by decide +kernel, rfl, by decide +kernel, by decide +kernel⟩
theorem Zgw (B : Blt mg) (T__law_value : TopFn K mg "_law_value" Zbu ["text", "most"]) : Callee P w K mg base "_law_value" 1 ["text", "most"] Zfs := by
  refine T__law_value.ok2 sc__law_value fun f cdv A outer s H v1 v2 Q E hr h => ?_
  have nd := sc__law_value.nd
  have hu := hr.units
  obtain ⟨z, most, rfl, rfl, hm, hz, az, k⟩ := h
  have hl := ZaO z
  refine' Zbd [some (.str z), some (.int (most : Nat)), none] rfl ?hb ?hg
  case' hb => refine' Zac ?bab ?bac
  case bab => exact (Zcw (i := 2) nd rfl (Or.inl rfl) (pv 0))
  case' bac => refine' Zac ?bad ?bae
  case' bad => refine' ZaL ?baf ?bag ?bah
  case baf => exact (Zal Zba (Zat ZcY (pv 0) ZaC (ZaB Zad)) Zan (Zao _))
  case bag => exact (Zaf (Zdq (i := 2) nd rfl (Or.inl rfl) (Zat ZcY (pv 0) (ZaB Zad) ZaC)))
  case bah => exact Zaq
  case' bae => refine' Zac ?bai ?baj
  case' bai => refine' ZaL ?bak ?bal ?bam
  case' bak => refine' PW.pt ?ban
  case' ban => refine' ZfD ?bao ?bap
  case bao => exact (Zal Zba (pv 2) Zan (Zao _))
  case' bap => refine' ZfD ?baq ?bar
  case baq => exact (Zal op_gt (Zap (Zb9 (K := K) rfl) (by rfl) B.b_len Zbw (Zaa (pv 2) Zab)) (pv 1) (Zao _))
  case' bar => refine' Zea ?bas
  case' bas => refine' Zal ?bat ?bau ?bav ?baw
  case bat => exact (k_neL (K := K) rfl hu)
  case' bau => refine' ZcR (LN := ["sign"]) (FN := []) (fr := []) ?bax ?bay ?baz ?bba ?bbb ?bbc
  case bax => exact rfl
  case bay => exact (ZdO (by rfl))
  case baz => exact (Zem (K := K) rfl (pv 2))
  case' bba => intro cl C fp pins s H
  case bba => exact (ZaE (i := 0) (show ((["sign"] : List Str) ++ ([] : List Str)).Nodup by decide +kernel) rfl (Or.inl rfl))
  case' bbb => intro cl C fp pins s H
  case bbb => exact (ZiU (Zal Zi2 (pv 0) Zan (by with_unfolding_all rfl)))
  case' bbc => intro cl C fp pins s H
  case bbc => exact (pv 0)
  case bav => exact (Za4 Zab)
  case baw => exact (Zao _)
  case bal => exact (Zaf (Zas ZbW))
  case bam => exact Zaq
  case' baj => refine' Zac ?bbd ?bbe
  case' bbd => refine' ZaL ?bbf ?bbg ?bbh
  case' bbf => refine' PW.pt ?bbi
  case' bbi => refine' ZdD ?bbj ?bbk
  case bbj => exact (Zal Zba (Zax Zfg (pv 2) Zad (fun _ _ => rfl)) Zan (Zao _))
  case bbk => exact (ZcP (Zal op_gt (Zap (Zb9 (K := K) rfl) (by rfl) B.b_len Zbw (Zaa (pv 0) Zab)) Zad (Zao _)))
  case bbg => exact (Zaf (Zas ZbW))
  case bbh => exact Zaq
  case bbe => exact (Zaf (Zas (ZaS Zgu (by rfl) B.b_int ZeZ (Zaa (pv 0) Zab))))
  refine Zgb ?_
  refine Zhl ?_
  walk_at "rd1"
  refine ZcO ?_
  try dsimp +zetaDelta only
  refine ZeA (fun σ Hx => ∃ fz : Str, An4 (σ = [some (.str z), some (.int (most : Nat)), some (.str fz)]) (cs fz = figT z) (Zbl fz) (Hx = H)) ?_ fun N hN => ?_
  rotate_left
  · walk_at "rd"
    refine ZiF (by lia) fun _ => ?_
    walk_at "rd"
    refine ZaH (fun hd => ?_) (fun hd => ?_)
    · have hd' := (ZeL z hz).mp hd
      have h1 : 1 <= z.length := by
        rw [<- hl]
        cases ez : cs z with
        | nil => rw [ez] at hd'; cases hd'
        | cons c r => simp
      walk_at "rd"
      refine ZiF (by lia) fun _ => ?_
      walk_at "rd"
      refine hN _ _ ⟨_, rfl, ?_, ZjP az, rfl⟩
      rw [Zis z h1]
      unfold figT
      rw [if_pos hd']
    · walk_at "rd"
      refine hN _ _ ⟨z, rfl, ?_, az, rfl⟩
      unfold figT
      rw [if_neg fun e => hd ((ZeL z hz).mpr e)]
  rintro σ Hx ⟨fz, rfl, ef, af, rfl⟩
  have hfl := ZaO fz
  have hfz : fz.length <= 900000 := by
    rw [<- hfl, ef]
    unfold figT
    split
    · rw [List.length_drop]; lia
    · lia
  have no : ∀ H', ¬ ((1 <= (figT z).length /\ (figT z).length <= most) /\ (figT z).all Zca = true) -> Same Hx H' -> Q .non H' := fun H' h s' => by
    have := k H' s'
    rw [show ZaM most z = none by unfold ZaM; rw [if_neg h]] at this
    exact this
  have yes : ∀ {v : V} {H' : Hp}, v = valV (ZaM most z) -> Same Hx H' -> Q v H' := fun {v H'} e s' => by rw [e]; exact k H' s'
  walk_at "rd"
  refine ZaH (fun h1 => ?_) (fun h1 => ?_)
  · walk_at "rd"
    refine no _ (fun h => ?_) (Same.refl _)
    rw [<- ef, h1] at h
    exact absurd h.1.1 (by decide)
  have hf1 : 1 <= (figT z).length := by
    rw [<- ef]
    cases e : cs fz with
    | nil => exact absurd (ZdM (by rw [e]; decide)) h1
    | cons c r => simp
  walk_at "rd"
  refine Zdc (Za8 (by lia)) ?_
  walk_at "rd"
  refine ZaH (fun h2 => ?_) (fun h2 => ?_)
  · walk_at "rd"
    refine no _ (fun h => ?_) (Same.refl _)
    rw [<- ef, hfl] at h
    lia
  walk_at "rd"
  refine ZfA ?_
  walk_at "rd"
  refine ⟨fz, rfl, af, ?_⟩
  refine ZjB (Za8 (by show fz.length <= _; lia)) (fun i ys σ Hy => An3 (∃ x1, σ = [x1]) (Hy = Hx) (∃ ms : List Nat, ys = ms.map (fun c : Nat => V.str ⟨#[c]⟩) /\ ms = ((cs fz).take i).filter fun c => !Zca c)) ⟨⟨none, rfl⟩, rfl, [], rfl, rfl⟩ ?_ ?_
  · rintro i c ys σ Hy hc hle hlt ⟨⟨x1, rfl⟩, rfl, ms, rfl, rfl⟩
    have hc' : (cs fz)[i]? = some c := by rw [Array.getElem?_toList]; exact hc
    have hfig : Zca c = decide (c ∈ (Str.ofString "0123456789").cps.toList) := Zlo c
    walk_at "rd"
    refine ZhP ?_
    walk_at "rd"
    rw [<- hfig]
    cases hb : Zca c with
    | false =>
      walk_at "rd"
      refine ⟨hlt, by simpa using hle, ⟨_, rfl⟩, rfl, _, ?_, rfl⟩
      rw [List.take_add_one, hc']
      simp [hb]
    | true =>
      walk_at "rd"
      refine ⟨by simpa using Nat.le_succ_of_le hle, ⟨_, rfl⟩, rfl, _, ?_, rfl⟩
      rw [List.take_add_one, hc']
      simp [hb]
  rintro ys σ Hy hyy ⟨⟨x1, rfl⟩, rfl, ms, rfl, hms⟩ p hp
  clear hyy
  rw [show fz.cps.size = (cs fz).length from hfl.symm, List.take_length] at hms
  have s1 := Same.new (o := .lst (ms.map fun c : Nat => V.str ⟨#[c]⟩)) hp
  have e1 : upd Hy p (.lst (ms.map fun c : Nat => V.str ⟨#[c]⟩)) p = some (.lst (ms.map fun c : Nat => V.str ⟨#[c]⟩)) := Zae
  generalize upd Hy p (.lst (ms.map fun c : Nat => V.str ⟨#[c]⟩)) = H1 at s1 e1
  walk_at "rd"
  walk_at "mk"; intro p2 hp2
  have s2 := Same.new (o := .lst []) hp2
  have e2 : upd H1 p2 (.lst []) p2 = some (.lst []) := Zae
  generalize upd H1 p2 (.lst []) = H2 at s2 e2
  have s12 := s1.trans s2
  walk_at "rd"
  have rr : Reps H2 (ms.map fun c : Nat => D.str ⟨#[c]⟩) (ms.map fun c : Nat => V.str ⟨#[c]⟩) := by
    clear hms e1
    clear s1
    induction ms with
    | nil => exact ZaT
    | cons c ms ih => exact Zau (by rw [Rep]) ih
  have pl : D.pls (ms.map fun c : Nat => D.str ⟨#[c]⟩) = true /\ D.deps (ms.map fun c : Nat => D.str ⟨#[c]⟩) = 0 := by
    clear hms e1 rr s1
    induction ms with
    | nil => exact ⟨by rw [List.map_nil, D.pls], by rw [List.map_nil, D.deps]⟩
    | cons c ms ih => exact ⟨by rw [List.map_cons, D.pls, ih.1]; rfl, by rw [List.map_cons, D.deps, ih.2]; rfl⟩
  refine Zkd (SqL.of (s2 _ _ e1)) rr pl.1 (by rw [pl.2]; decide) e2 ?_
  walk_at "rd"
  refine Zed (fun h3 => ?_) (fun h3 => ?_)
  · walk_at "rd"
    refine no _ (fun h => h3 ?_) s12
    have : ms = [] := by
      rw [hms, List.filter_eq_nil_iff]
      intro c hc
      rw [ef] at hc
      have := List.all_eq_true.mp h.2 c hc
      simp [this]
    rw [this]
    rfl
  have hall : (figT z).all Zca = true := by
    have hme : ms = [] := List.map_eq_nil_iff.mp h3
    rw [List.all_eq_true]
    intro c hc
    rw [hme] at hms
    have := List.filter_eq_nil_iff.mp hms.symm c (by rw [ef]; exact hc)
    simpa using this
  have hcond : (1 <= (figT z).length /\ (figT z).length <= most) /\ (figT z).all Zca = true := ⟨⟨hf1, by rw [<- ef, hfl]; lia⟩, hall⟩
  obtain ⟨hzl, n', hn'⟩ := Ze6 hm hcond.1 hcond.2
  obtain ⟨c, r, ec⟩ : ∃ c r, cs fz = c :: r := by
    cases h : cs fz with
    | nil => rw [<- ef, h] at hf1; exact absurd hf1 (by decide)
    | cons c r => exact ⟨c, r, rfl⟩
  have hc0 : (⟨#[c]⟩ : Str) = Str.ofString "0" ↔ (figT z).head? = some 48 := by
    rw [<- ef, ec]
    constructor
    · intro e
      have := congrArg cs e
      have h2 : [c] = [48] := this.trans (by decide)
      rw [(List.cons.inj h2).1]
      rfl
    · intro e
      cases e
      decide
  have hz1 : (figT z).head? = some 48 -> (1 < z.length ↔ cs z ≠ [48]) := by
    intro h48
    constructor
    · intro h e
      rw [<- hl, e] at h
      exact absurd h (by decide)
    · intro h
      have : 1 <= z.length := by rw [<- hl]; unfold figT at hf1; split at hf1 <;> (try rw [List.length_drop] at hf1) <;> lia
      rcases Nat.lt_or_ge 1 z.length with q | q
      · exact q
      · exfalso
        have h1' : z.length = 1 := by lia
        rw [<- hl] at h1'
        obtain ⟨d, hd⟩ := List.length_eq_one_iff.mp h1'
        unfold figT at h48
        split at h48
        · rw [hd] at h48; cases h48
        · rw [hd] at h48
          cases h48
          exact h hd
  walk_at "rd"
  refine ⟨fz, 0, c, rfl, rfl, Za8 (by lia), Zar (n := 0) rfl (by show (cs fz)[0]? = _; rw [ec]; rfl), ?_⟩
  walk_at "rd"
  refine ZaH (fun h4 => ?_) (fun h4 => ?_)
  · walk_at "rd"
    refine Zdc (Za8 (by lia)) ?_
    walk_at "rd"
    refine ZaH (fun h5 => ?_) (fun h5 => ?_)
    · walk_at "rd"
      refine yes ?_ s12
      unfold ZaM
      rw [if_pos hcond, if_pos ⟨hc0.mp h4, (hz1 (hc0.mp h4)).mp (by lia)⟩]
      rfl
    · walk_at "rd"
      refine ZfB hn' (by lia) ?_
      refine yes ?_ s12
      unfold ZaM
      rw [if_pos hcond, if_neg (fun h => h5 (by have := (hz1 h.1).mpr h.2; lia)), hn']
      rfl
  · walk_at "rd"
    refine ZfB hn' (by lia) ?_
    refine yes ?_ s12
    unfold ZaM
    rw [if_pos hcond, if_neg (fun h => h4 (hc0.mpr h.1)), hn']
    rfl
noncomputable def ZcG (ws : List Str) : List V := ws.map fun x => valV (ZaM 60 x)
theorem Zgg : ∀ {ws : List Str} {ns : List Int}, ws.mapM (ZaM 60) = some ns -> ZcG ws = ns.map V.int := by
  intro ws ns h
  obtain ⟨hl, hi⟩ := Zc6 h
  refine List.ext_getElem? fun i => ?_
  unfold ZcG
  rw [List.getElem?_map, List.getElem?_map]
  cases e : ws[i]? with
  | none => rw [List.getElem?_eq_none (by rw [<- hl]; exact List.getElem?_eq_none_iff.mp e)]; rfl
  | some x =>
    obtain ⟨n, e1, e2⟩ := hi i x e
    rw [e1]
    show some (valV (ZaM 60 x)) = _
    rw [e2]
    rfl
theorem ZeJ : ∀ {ws : List Str}, inV .non (ZcG ws) = (ws.mapM (ZaM 60)).isNone
  | [] => rfl
  | x :: ws => by
    have ih := ZeJ (ws := ws)
    rw [List.mapM_cons]
    show (eqV (valV (ZaM 60 x)) .non || inV .non (ZcG ws)) = _
    rw [ih]
    cases ZaM 60 x with
    | none => rfl
    | some n =>
      cases ws.mapM (ZaM 60) <;> rfl
theorem ZeR : ∀ {ws : List Str}, (ZcG ws).all ZeS = true
  | [] => rfl
  | x :: ws => by
    show (ZeS (valV (ZaM 60 x)) && (ZcG ws).all ZeS) = true
    rw [ZeR]
    cases ZaM 60 x <;> rfl
noncomputable def Zgk (w0 : Str) (ws : List Str) : Option (Str × List D) := (ws.mapM (ZaM 60)).bind (rowP w0)
theorem Zmy {wd : Str} (h : lettersL.lookup wd = none) : partsT.lookup wd = none := by
  have hk : ∀ q ∈ partsT, (lettersL.lookup q.1).isSome = true := by decide +kernel
  cases e : partsT.lookup wd with
  | none => rfl
  | some ks =>
    have : ∀ (l : List (Str × List Str)), l.lookup wd = some ks -> (wd, ks) ∈ l := by
      intro l
      induction l with
      | nil => intro h; cases h
      | cons q l ih =>
        intro h
        obtain ⟨a, b⟩ := q
        rw [List.lookup_cons] at h
        split at h
        · next e => cases h; rw [beq_iff_eq.mp e]; exact List.mem_cons_self
        · exact List.mem_cons_of_mem _ (ih h)
    have := hk _ (this _ e)
    rw [show lettersL.lookup (wd, ks).1 = none from h] at this
    cases this
theorem ZkI {wd ls : Str} (h : lettersL.lookup wd = some ls) : ∃ ks, partsT.lookup wd = some ks /\ ks.length = ls.cps.size := by
  have : ∀ (l : List (Str × Str)), l.lookup wd = some ls -> (wd, ls) ∈ l := by
    intro l
    induction l with
    | nil => intro h; cases h
    | cons q l ih =>
      intro h
      obtain ⟨a, b⟩ := q
      rw [List.lookup_cons] at h
      split at h
      · next e => cases h; rw [beq_iff_eq.mp e]; exact List.mem_cons_self
      · exact List.mem_cons_of_mem _ (ih h)
  have hm := this _ h
  have hk : ∀ q ∈ lettersL, (partsT.lookup q.1).map List.length = some q.2.cps.size := by decide +kernel
  have := hk _ hm
  cases e : partsT.lookup wd with
  | none => rw [show partsT.lookup (wd, ls).1 = none from e] at this; cases this
  | some ks => rw [show partsT.lookup (wd, ls).1 = some ks from e] at this; exact ⟨ks, rfl, Option.some.inj this⟩
theorem Zg8 {wd : Str} : ∀ (l : List (Str × Str)), L2.valV (l.map fun q => ((Sum.inr q.1 : Key), V.str q.2)) (Sum.inr wd) = (l.lookup wd).map V.str
  | [] => rfl
  | q :: l => by
    rw [List.lookup_cons, List.map_cons]
    by_cases e : wd = q.1
    · rw [beq_iff_eq.mpr e]
      subst e
      simp [L2.valV]
    · have : (wd == q.1) = false := by simpa using e
      rw [this]
      have ih := Zg8 (wd := wd) l
      rw [<- ih]
      simp [L2.valV, Ne.symm e]
noncomputable def callR : List Int -> Option (Str × List D)
 | a :: b :: qs => some (Zb3, [.int a, .int b, .tup (qs.map D.int)])
 | _ => none
theorem ZlB {w0 : Str} {ns : List Int} {ks : List Str} (lk : partsT.lookup w0 = some ks) : rowP w0 ns = if w0 = Zb3 then callR ns else if ns.length = ks.length then some (w0, ns.map D.int) else none := by
 unfold rowP
 rw [lk]
 rcases ns with _ | ⟨a, _ | ⟨b, qs⟩⟩ <;> rfl
inductive Pr_line (x : V) (H : Hp) (Q : VK) : Prop
 | mk (a w0 ws) (_ : x = .ref a) (_ : H a = some (.lst ((w0 :: ws).map V.str))) (_ : ∀ p ∈ ws, Zbl p /\ p.length <= 900000) (_ : ws.length <= 900001) (_ : ∀ r v H', Zgk w0 ws = some r -> Rep H' (rowD r) v -> Same H H' -> Q v H') (_ : Zgk w0 ws = none -> ∀ H', Same H H' -> Q .non H') : Pr_line x H Q
noncomputable def Zio : Sp := sp1 (Pr_line)
theorem sc__law_line : FnScope ["some", "letters", "numbers"] ["some"] (Zag ZbJ) := ⟨rfl, rfl, rfl, by decide +kernel, rfl, by decide +kernel, by decide +kernel⟩
theorem ZgY (B : Blt mg) (T__law_line : TopFn K mg "_law_line" ZbJ ["some"]) (Zaz : Callee P w K mg base "_law_letters" 1 [] Zcm) (Zb4 : Callee P w K mg base "_law_value" 1 ["text", "most"] Zfs) : Callee P w K mg base "_law_line" 2 ["some"] Zio := by
  refine T__law_line.ok1 sc__law_line fun f cdv A outer s H v1 Q E hr h => ?_
  have nd := sc__law_line.nd
  have hu := hr.units
  have hu1 := ZmG hr
  obtain ⟨a, w0, ws, rfl, ha, hw, hl, k, no⟩ := h
  refine' Zbd [some (.ref a), none, none] rfl ?hb ?hg
  case' hb => refine' Zac ?bab ?bac
  case' bab => refine' Zbx (i := 1) ?bad ?bae ?baf ?bag
  case bad => exact nd
  case bae => exact rfl
  case baf => exact (Or.inl rfl)
  case' bag => refine' Zkv ?bah ?bai ?baj ?bak
  case bah => exact hu1
  case bai => exact (Zfc Zaz (hr.mono (by first | decide | lia)) (by rfl))
  case baj => exact (Zax (k_ix (K := K) rfl) (pv 0) Zad (fun _ _ => rfl))
  case bak => exact (M1.mk rfl rfl rfl rfl)
  case' bac => refine' Zac ?bal ?bam
  case' bal => refine' ZfE (i := 2) (LN := ["one"]) (FN := []) (fr := []) ?ban ?bao ?bap ?baq ?bar ?bas ?bat ?bau ?bav
  case ban => exact rfl
  case bao => exact nd
  case bap => exact rfl
  case baq => exact rfl
  case bar => exact (ZdO (by rfl))
  case bas => exact (ZbB (K := K) rfl (Zat (k_sl (K := K) rfl) (pv 0) (ZaB Zad) ZaC))
  case' bat => intro cl C fp pins s H
  case bat => exact (ZaE (i := 0) (show ((["one"] : List Str) ++ ([] : List Str)).Nodup by decide +kernel) rfl (Or.inl rfl))
  case' bau => intro cl C fp pins s H
  case bau => exact Zcc
  case' bav => intro cl C fp pins s H
  case bav => exact (ZaG Zb4 (hr.mono (by first | decide | lia)) (by rfl) (Zaa (pv 0) (Zai Zad Zab)))
  case' bam => refine' Zac ?baw ?bax
  case' baw => refine' ZaL ?bay ?baz ?bba
  case bay => exact (PW.pt (ZfD (Zal ZeI (pv 1) ZbW (Zao _)) (Zea (Zal (k_in (K := K) rfl) ZbW (pv 2) (by with_unfolding_all rfl)))))
  case baz => exact (Zaf (Zas ZbW))
  case bba => exact Zaq
  case' bax => refine' Zac ?bbb ?bbc
  case' bbb => refine' ZaL ?bbd ?bbe ?bbf
  case bbd => exact (Zal Zba (Zax (k_ix (K := K) rfl) (pv 0) Zad (fun _ _ => rfl)) Zan (Zao _))
  case' bbe => refine' Zac ?bbg ?bbh
  case' bbg => refine' ZaL ?bbi ?bbj ?bbk
  case bbi => exact (Zal ZkD (Zap (Zb9 (K := K) rfl) (by rfl) B.b_len Zbw (Zaa (pv 2) Zab)) Zad (Zao _))
  case bbj => exact (Zaf (Zas ZbW))
  case bbk => exact Zaq
  case' bbh => refine' Zaf ?bbl
  case' bbl => refine' Zas ?bbm
  case' bbm => refine' Zcx ?bbn
  case' bbn => refine' Zai ?bbo ?bbp
  case bbo => exact Zan
  case' bbp => refine' Za1 ?bbq ?bbr
  case bbq => exact (Zax (k_ix (K := K) rfl) (pv 2) Zad (fun _ _ => rfl))
  case' bbr => refine' Za1 ?bbs ?bbt
  case bbs => exact (Zax (k_ix (K := K) rfl) (pv 2) Zad (fun _ _ => rfl))
  case' bbt => refine' ZaJ ?bbu ?bbv
  case bbu => exact (ZaS (Zds (K := K) rfl) (by rfl) B.b_tuple Zb5 (Za1 (Zat (k_sl (K := K) rfl) (pv 2) (ZaB Zad) ZaC) Zab))
  case bbv => exact Zab
  case bbf => exact Zaq
  case' bbc => refine' Zac ?bbw ?bbx
  case' bbw => refine' ZaL ?bby ?bbz ?bca
  case' bby => refine' Zal ?bcb ?bcc ?bcd ?bce
  case bcb => exact ZhR
  case bcc => exact (Zap (Zb9 (K := K) rfl) (by rfl) B.b_len Zbw (Zaa (pv 2) Zab))
  case bcd => exact (Zap (Zb9 (K := K) rfl) (by rfl) B.b_len Zbw (Zaa (pv 1) Zab))
  case bce => exact (Zao _)
  case bbz => exact (Zaf (Zas ZbW))
  case bca => exact Zaq
  case' bbx => refine' Zaf ?bcf
  case' bcf => refine' Zas ?bcg
  case' bcg => refine' ZaS ?bch ?bci ?bcj ?bck ?bcl
  case bch => exact (Zds (K := K) rfl)
  case bci => exact (by rfl)
  case bcj => exact B.b_tuple
  case bck => exact Zb5
  case bcl => exact (ZaW (Zam ZbU (Za4 (Za1 (Zax (k_ix (K := K) rfl) (pv 0) Zad (fun _ _ => rfl)) Zab)) (pv 2)) Zab)
  walk_at "rd"
  refine use0 fun pl H1 hpl hl1 s1 => ⟨pl, rfl, .inl ⟨_, .inl hl1⟩, ?_⟩
  have ha1 := s1 _ _ ha
  walk_at "rd"
  refine Zak ha1 (v := .str w0) (Zar (n := 0) rfl rfl) ?_
  refine ⟨_, .inl ⟨_, Sum.inr w0, .inl hl1, rfl, rfl⟩, ?_⟩
  rw [show L2.valV lettersKV (Sum.inr w0) = (lettersL.lookup w0).map V.str from Zg8 _]
  obtain ⟨vv, hvv⟩ : ∃ vv, ((lettersL.lookup w0).map V.str).getD .non = vv := ⟨_, rfl⟩
  rw [hvv]
  walk_at "rd"
  refine ZdB (SqL.of ha1) fun p3 hp3 => ?_
  have ec : cutV ((w0 :: ws).map V.str) (some 1) none = ws.map V.str := ZcV (k := 1) (by simp)
  rw [ec]
  have s3 := Same.new (o := .lst (ws.map V.str)) hp3
  have e3 : upd H1 p3 (.lst (ws.map V.str)) p3 = some (.lst (ws.map V.str)) := Zae
  generalize upd H1 p3 (.lst (ws.map V.str)) = H3 at s3 e3
  refine ZcZ (SqL.of e3) ?_
  refine ZfS (xs := ws.map V.str) (Za8 (by rw [List.length_map]; lia)) (fun j ys σ Hy => An3 (∃ x1, σ = [x1]) (Same H3 Hy) (ys = ZcG (ws.take j))) ⟨⟨none, rfl⟩, Same.refl _, rfl⟩ (fun j ys σ Hy _ z_ => by obtain ⟨_, s4, _⟩ := z_; exact SqL.of (s4 _ _ e3)) ?_ ?_
  · rintro j x ys σ Hy hx hle hlt ⟨⟨x1, rfl⟩, s4, rfl⟩
    rw [List.getElem?_map] at hx
    obtain ⟨wd, ew, rfl⟩ := Option.map_eq_some_iff.mp hx
    obtain ⟨wa, wl⟩ := hw wd (List.mem_of_getElem? ew)
    walk_at "rd"
    refine use2 ⟨wd, 60, rfl, rfl, by decide, wl, wa, fun H5 s5 => ?_⟩
    refine ⟨hlt, by simpa using hle, ⟨_, rfl⟩, s4.trans s5, ?_⟩
    rw [List.take_add_one, ew]
    unfold ZcG
    rw [List.map_append]
    rfl
  rintro ys σ Hy _ ⟨⟨x1, rfl⟩, s4, rfl⟩ p5 hp5
  rw [List.length_map, List.take_length]
  have s5 := Same.new (o := .lst (ZcG ws)) hp5
  have e5 : upd Hy p5 (.lst (ZcG ws)) p5 = some (.lst (ZcG ws)) := Zae
  generalize upd Hy p5 (.lst (ZcG ws)) = H5 at s5 e5
  have s05 := ((s1.trans s3).trans s4).trans s5
  have ha5 := s05 _ _ ha
  walk_at "rd"
  cases elk : lettersL.lookup w0 with
  | none =>
    obtain rfl : V.non = vv := by rw [elk] at hvv; exact hvv
    refine Zfh rfl ?_
    walk_at "rd"
    refine no ?_ _ s05
    unfold Zgk
    cases ws.mapM (ZaM 60) with
    | none => rfl
    | some ns =>
      show rowP w0 ns = none
      unfold rowP
      rw [Zmy elk]
  | some ls =>
    obtain rfl : V.str ls = vv := by rw [elk] at hvv; exact hvv
    obtain ⟨ks, lk, hkl⟩ := ZkI elk
    refine ZdI (fun z => by cases z) ?_
    walk_at "rd"
    refine ⟨p5, _, rfl, .inl (SqL.of e5), rfl, ZeR, ?_⟩
    rw [if_neg Bool.false_ne_true, ZeJ]
    refine ⟨_, rfl, ?_⟩
    cases em : ws.mapM (ZaM 60) with
    | none =>
      refine ZdT rfl ?_
      walk_at "rd"
      refine no ?_ _ s05
      unfold Zgk
      rw [em]
      rfl
    | some ns =>
      rw [Zgg em] at e5
      have hnl := (Zc6 em).1
      refine Zec rfl ?_
      have eR : Zgk w0 ws = rowP w0 ns := by unfold Zgk; rw [em]; rfl
      have eP := ZlB (ns := ns) lk
      walk_at "rd"
      refine Zak ha5 (v := .str w0) (Zar (n := 0) rfl rfl) ?_
      walk_at "rd"
      refine ZaH (fun hc => ?_) (fun hc => ?_)
      · rw [if_pos (show w0 = Zb3 from hc)] at eP
        walk_at "rd"
        refine Zbk (SqL.of e5) ?_
        walk_at "rd"
        rw [List.length_map]
        refine ZaH (fun h2 => ?_) (fun h2 => ?_)
        · walk_at "rd"
          refine no ?_ _ s05
          rw [eR, eP]
          rcases ns with _ | ⟨x, _ | ⟨y, r⟩⟩
          · rfl
          · rfl
          · simp at h2; lia
        · obtain ⟨x, y, qs, rfl⟩ : ∃ x y qs, ns = x :: y :: qs := by
            rcases ns with _ | ⟨x, _ | ⟨y, r⟩⟩
            · exact absurd (show ((0 : Nat) : Int) < 2 by decide) h2
            · exact absurd (show ((1 : Nat) : Int) < 2 by decide) h2
            · exact ⟨x, y, r, rfl⟩
          walk_at "rd"
          refine Zak e5 (v := .int x) (Zar (n := 0) rfl rfl) ?_
          walk_at "rd"
          refine Zak e5 (v := .int y) (Zar (n := 1) rfl rfl) ?_
          walk_at "rd"
          refine ZdB (SqL.of e5) fun p6 hp6 => ?_
          have e26 : cutV ((x :: y :: qs).map V.int) (some 2) none = qs.map V.int := ZcV (k := 2) (by simp)
          rw [e26]
          have s6 := Same.new (o := .lst (qs.map V.int)) hp6
          have e6 : upd H5 p6 (.lst (qs.map V.int)) p6 = some (.lst (qs.map V.int)) := Zae
          generalize upd H5 p6 (.lst (qs.map V.int)) = H6 at s6 e6
          walk_at "rd"
          refine Zdn (SqL.of e6) fun p7 hp7 => ?_
          have s7 := Same.new (o := .tup (qs.map V.int)) hp7
          have e7 : upd H6 p7 (.tup (qs.map V.int)) p7 = some (.tup (qs.map V.int)) := Zae
          generalize upd H6 p7 (.tup (qs.map V.int)) = H7 at s7 e7
          walk_at "rd"
          walk_at "mk"; intro p8 hp8
          have s8 := Same.new (o := .tup [V.str "call", V.int x, V.int y, V.ref p7]) hp8
          refine k _ _ _ (eR.trans eP) ?_ (((s05.trans s6).trans s7).trans s8)
          exact ZbY Zae (Zau (by rw [Rep]; rfl) (Zau ZbZ (Zau ZbZ (Zau (ZbY (s8 _ _ e7) (Zcv qs)) ZaT))))
      · rw [if_neg (show ¬ w0 = Zb3 from hc)] at eP
        have h3 : ls.length <= 1000000 := by
          have hk : ∀ q ∈ lettersL, q.2.length <= 1000000 := by decide +kernel
          have : ∀ (l : List (Str × Str)), l.lookup w0 = some ls -> (∀ q ∈ l, q.2.length <= 1000000) -> ls.length <= 1000000 := by
            intro l
            induction l with
            | nil => intro h; cases h
            | cons q l ih =>
              intro h hq
              obtain ⟨a, b⟩ := q
              rw [List.lookup_cons] at h
              split at h
              · cases h; exact hq _ List.mem_cons_self
              · exact ih h fun q hq' => hq q (List.mem_cons_of_mem _ hq')
          exact this _ elk hk
        walk_at "rd"
        refine Zbk (SqL.of e5) ?_
        walk_at "rd"
        refine Zdc (Za8 h3) ?_
        walk_at "rd"
        rw [List.length_map]
        refine Zed (fun hn => ?_) (fun hn => ?_)
        · rw [if_neg (fun z => hn (by rw [z, hkl]; rfl))] at eP
          walk_at "rd"
          exact no (eR.trans eP) _ s05
        · rw [if_pos (by rw [hkl]; have : (ns.length : Int) = ls.length := hn; have : ls.length = ls.cps.size := rfl; lia)] at eP
          walk_at "rd"
          refine Zak ha5 (v := .str w0) (Zar (n := 0) rfl rfl) ?_
          walk_at "rd"
          walk_at "mk"; intro p6 hp6
          have s6 := Same.new (o := .lst [V.str w0]) hp6
          have e6 : upd H5 p6 (.lst [V.str w0]) p6 = some (.lst [V.str w0]) := Zae
          generalize upd H5 p6 (.lst [V.str w0]) = H6 at s6 e6
          walk_at "rd"
          refine Zhk e6 (s6 _ _ e5) (Za8 (by simp; lia)) fun p7 hp7 => ?_
          have s7 := Same.new (o := .lst ([V.str w0] ++ ns.map V.int)) hp7
          have e7 : upd H6 p7 (.lst ([V.str w0] ++ ns.map V.int)) p7 = some (.lst ([V.str w0] ++ ns.map V.int)) := Zae
          generalize upd H6 p7 (.lst ([V.str w0] ++ ns.map V.int)) = H7 at s7 e7
          walk_at "rd"
          refine Zdn (SqL.of e7) fun p8 hp8 => ?_
          have s8 := Same.new (o := .tup ([V.str w0] ++ ns.map V.int)) hp8
          refine k _ _ _ (eR.trans eP) ?_ (((s05.trans s6).trans s7).trans s8)
          exact ZbY Zae (Zau (by rw [Rep]) (Zcv ns))
inductive Pr_progof (x : V) (H : Hp) (Q : VK) : Prop
 | mk (z) (_ : x = .str z) (_ : z.length <= 900000) (_ : Zbl z) (_ : ∀ ds q H', Zc3 z = some ds -> NewPg H H' q ds -> Q (.ref q) H') (_ : Zc3 z = none -> ∀ H', Same H H' -> Q .non H') : Pr_progof x H Q
noncomputable def Zim : Sp := sp1 (Pr_progof)
theorem Zgj {acc : List PDef} {ns : List Int} : Zdk acc defW ns = match ns with
  | [a, b] => some (acc ++ [(a, b, [])])
  | _ => none := by
 rcases ns with _ | ⟨a, _ | ⟨b, _ | ⟨c, r⟩⟩⟩ <;> (unfold Zdk; rw [if_pos rfl])
theorem Zgi {acc : List PDef} {w0 : Str} {ns : List Int} (h : ¬ w0 = defW) : Zdk acc w0 ns = if acc = [] then none else (rowP w0 ns).map (Zee acc) := by
 unfold Zdk
 rw [if_neg h]
theorem sc__law_program_of : FnScope ["text", "program", "line", "some", "numbers", "row"] ["text"] (Zag ZaP) := ⟨rfl, rfl, rfl, by decide +kernel, rfl, by decide +kernel, by decide +kernel⟩
theorem ZdY (B : Blt mg) (T__law_program_of : TopFn K mg "_law_program_of" ZaP ["text"]) (Zb4 : Callee P w K mg base "_law_value" 1 ["text", "most"] Zfs) (Zd4 : Callee P w K mg base "_law_line" 2 ["some"] Zio) : Callee P w K mg base "_law_program_of" 3 ["text"] Zim := by
  refine T__law_program_of.ok1 sc__law_program_of fun f cdv A outer s H v1 Q E hr h => ?_
  have nd := sc__law_program_of.nd
  have hu := hr.units
  obtain ⟨z, rfl, hz, az, k, no⟩ := h
  refine' Zbd [some (.str z), none, none, none, none, none] rfl ?hb ?hg
  case' hb => refine' Zac ?bab ?bac
  case bab => exact (Zb0 (i := 1) nd rfl (Or.inl rfl) (Za4 Zab))
  case' bac => refine' Zac ?bad ?bae
  case' bad => refine' Zb8 ?baf ?bag ?bah ?bai ?baj
  case baf => exact PassesOwn.never
  case bag => exact rfl
  case' bah => refine' ZbB (K := K) ?bak ?bal
  case bak => exact rfl
  case bal => exact (k_bm (K := K) rfl PySem.F.plainAttrs_str PySem.F.slot_str_split PySem.F.type_str_split Zck (pv 0) (Zai Zan Zab))
  case bai => exact (ZaE (i := 2) nd rfl (Or.inl rfl))
  case' baj => refine' Zac ?bam ?ban
  case' bam => refine' Zbx (i := 3) ?bao ?bap ?baq ?bar
  case bao => exact nd
  case bap => exact rfl
  case baq => exact (Or.inl rfl)
  case bar => exact (k_bm (K := K) rfl PySem.F.plainAttrs_str PySem.F.slot_str_split PySem.F.type_str_split Zck (pv 2) (Zai Zan Zab))
  case' ban => refine' Zaf ?bas
  case' bas => refine' ZaL ?bat ?bau ?bav
  case bat => exact (Zal Zba (Zax (k_ix (K := K) rfl) (pv 3) Zad (fun _ _ => rfl)) Zan (Zao _))
  case' bau => refine' Zac ?baw ?bax
  case' baw => refine' ZfE (i := 4) (LN := ["one"]) (FN := []) (fr := []) ?bay ?baz ?bba ?bbb ?bbc ?bbd ?bbe ?bbf ?bbg
  case bay => exact rfl
  case baz => exact nd
  case bba => exact rfl
  case bbb => exact rfl
  case bbc => exact (ZdO (by rfl))
  case bbd => exact (ZbB (K := K) rfl (Zat (k_sl (K := K) rfl) (pv 3) (ZaB Zad) ZaC))
  case' bbe => intro cl C fp pins s H
  case bbe => exact (ZaE (i := 0) (show ((["one"] : List Str) ++ ([] : List Str)).Nodup by decide +kernel) rfl (Or.inl rfl))
  case' bbf => intro cl C fp pins s H
  case bbf => exact Zcc
  case' bbg => intro cl C fp pins s H
  case bbg => exact (ZaG Zb4 (hr.mono (by first | decide | lia)) (by rfl) (Zaa (pv 0) (Zai Zad Zab)))
  case' bax => refine' Zac ?bbh ?bbi
  case' bbh => refine' ZaL ?bbj ?bbk ?bbl
  case' bbj => refine' PW.pt ?bbm
  case' bbm => refine' ZfD ?bbn ?bbo
  case bbn => exact (Zal ZhR (Zap (Zb9 (K := K) rfl) (by rfl) B.b_len Zbw (Zaa (pv 4) Zab)) Zad (Zao _))
  case bbo => exact (Zea (Zal (k_in (K := K) rfl) ZbW (pv 4) (by with_unfolding_all rfl)))
  case bbk => exact (Zaf (Zas ZbW))
  case bbl => exact Zaq
  case' bbi => refine' Zaf ?bbp
  case' bbp => refine' ZbL ?bbq
  case' bbq => refine' k_bm (K := K) ?bbr ?bbs ?bbt ?bbu ?bbv ?bbw ?bbx
  case bbr => exact rfl
  case bbs => exact PySem.F.plainAttrs_list
  case bbt => exact PySem.F.slot_list_append
  case bbu => exact PySem.F.type_list_append
  case bbv => exact Zbb
  case bbw => exact (pv 1)
  case' bbx => refine' ZdF ?bby ?bbz
  case' bby => refine' Zcx ?bca
  case' bca => refine' Za1 ?bcb ?bcc
  case bcb => exact (Zax (k_ix (K := K) rfl) (pv 4) Zad (fun _ _ => rfl))
  case bcc => exact (Za1 (Zax (k_ix (K := K) rfl) (pv 4) Zad (fun _ _ => rfl)) (Zel (Za4 Zab) Zab))
  case bbz => exact Zab
  case' bav => refine' Zac ?bcd ?bce
  case bcd => exact (Zbx (i := 5) nd rfl (Or.inl rfl) (ZaG Zd4 (hr.mono (by first | decide | lia)) (by rfl) (Zaa (pv 3) Zab)))
  case' bce => refine' Zac ?bcf ?bcg
  case' bcf => refine' ZaL ?bch ?bci ?bcj
  case bch => exact (PW.pt (ZfD (Zal ZeI (pv 5) ZbW (Zao _)) (Zea (Zal (k_eqE (K := K) rfl hu) (pv 1) (Za4 Zab) (Zao _)))))
  case bci => exact (Zaf (Zas ZbW))
  case bcj => exact Zaq
  case' bcg => refine' Zaf ?bck
  case' bck => refine' ZbL ?bcl
  case' bcl => refine' k_bm (K := K) ?bcm ?bcn ?bco ?bcp ?bcq ?bcr ?bcs
  case bcm => exact rfl
  case bcn => exact PySem.F.plainAttrs_list
  case bco => exact PySem.F.slot_list_append
  case bcp => exact PySem.F.type_list_append
  case bcq => exact Zbb
  case bcr => exact (Zax (k_ix (K := K) rfl) (Zax (k_ix (K := K) rfl) (pv 1) (pe_un Zk4 Zad) (fun _ _ => rfl)) Zad (fun _ _ => rfl))
  case bcs => exact (Zaa (pv 5) Zab)
  case bae => exact (Zaf (Zas (pv 1)))
  walk_at "rd"
  walk_at "mk"; intro q hq
  have s0 := Same.new (o := .lst []) hq
  have e0 : upd H q (.lst []) q = some (.lst []) := Zae
  have I0 : RdI H (upd H q (.lst [])) q [] [] [] := ⟨e0, ⟨rfl, rfl, fun i d v l e => (by cases e)⟩, List.nodup_nil, List.not_mem_nil, fun l hl => (by cases hl), fun a o n _ e => s0 _ _ e⟩
  generalize upd H q (.lst []) = H0 at s0 e0 I0
  walk_at "rd"
  refine ⟨rfl, ?_⟩
  walk_at "rd"
  refine Zdb (by decide) (Za8 (by lia)) fun p1 hp1 => ?_
  rw [show (Str.ofString "\n") = (⟨#[10]⟩ : Str) from Zcp]
  generalize hls : Txt.split z ⟨#[10]⟩ = lines
  have hll : lines.length <= 1000000 := by
    have := Zb7 z ⟨#[10]⟩
    rw [hls] at this
    lia
  have s1 := Same.new (o := .lst (lines.map V.str)) hp1
  have e1 : upd H0 p1 (.lst (lines.map V.str)) p1 = some (.lst (lines.map V.str)) := Zae
  have I1 := I0.mono s1
  have npq : p1 ≠ q := fun e => by rw [e, e0] at hp1; cases hp1
  generalize upd H0 p1 (.lst (lines.map V.str)) = H1 at s1 e1 I1
  refine ZcZ (SqL.of e1) ?_
  refine ZeQ (xs := lines.map V.str) (fun i σ Hx => Ex7 fun c2 c3 c4 c5 acc vs ls => An7 (σ = [some (.str z), some (.ref q), c2, c3, c4, c5]) ((lines.take i).foldlM Zb1 [] = some acc) (acc.length <= i) (∀ d ∈ acc, d.2.2.length <= i) (RdI H Hx q acc vs ls) (p1 ∉ ls) (Hx p1 = some (.lst (lines.map V.str))))
    ⟨none, none, none, none, [], [], [], rfl, rfl, Nat.le_refl _, (fun d hd => by cases hd), I1, List.not_mem_nil, e1⟩ (fun i σ Hx _ z_ => by obtain ⟨_, _, _, _, _, _, _, _, _, _, _, _, _, e⟩ := z_; exact SqL.of e) ?_ ?_
  · rintro i x σ Hx hx ⟨c2, c3, c4, c5, acc, vs, ls, rfl, hacc, hal, har, I, np, ep⟩ N hN
    rw [List.getElem?_map] at hx
    obtain ⟨line, el, rfl⟩ := Option.map_eq_some_iff.mp hx
    have hmem : line ∈ Txt.split z ⟨#[10]⟩ := by rw [hls]; exact List.mem_of_getElem? el
    have al := Zep hmem az
    have hlz := (ZbX hmem).2
    have hil : i < lines.length := (List.getElem?_eq_some_iff.mp el).1
    have bad : Zb1 acc line = none -> ∀ H', Same Hx H' -> Q .non H' := fun e H' s' => no (by
      unfold Zc3
      rw [Zcp, hls]
      exact Zf3 (i := i + 1) (by rw [ZdK el hacc]; exact e)) H' ((NewPg.same ⟨hq, vs, ls, I⟩).trans s')
    have next := ZdK (f := Zb1) el hacc
    walk_at "rd"
    refine ⟨rfl, ?_⟩
    walk_at "rd"
    refine Zdb (by decide) (Za8 (by lia)) fun p2 hp2 => ?_
    rw [show (Str.ofString " ") = (⟨#[32]⟩ : Str) from Zcy]
    obtain ⟨w0, ws, hws⟩ : ∃ w0 ws, Txt.split line ⟨#[32]⟩ = w0 :: ws := by
      cases hws : Txt.split line ⟨#[32]⟩ with
      | nil => exact absurd hws (ZbN _ _)
      | cons w0 ws => exact ⟨w0, ws, rfl⟩
    have hwl := Zb7 line ⟨#[32]⟩
    have hwp : ∀ p ∈ ws, Zbl p /\ p.length <= 900000 := fun p hp => by
      have hm : p ∈ Txt.split line ⟨#[32]⟩ := by rw [hws]; exact List.mem_cons_of_mem _ hp
      exact ⟨Zep hm al, by have := (ZbX hm).2; lia⟩
    rw [hws] at hwl ⊢
    simp only [List.length_cons] at hwl
    have s2 := Same.new (o := .lst ((w0 :: ws).map V.str)) hp2
    have e2 : upd Hx p2 (.lst ((w0 :: ws).map V.str)) p2 = some (.lst ((w0 :: ws).map V.str)) := Zae
    generalize upd Hx p2 (.lst ((w0 :: ws).map V.str)) = H2 at s2 e2
    have lineE := Zht (acc := acc) (show Txt.split line blank = w0 :: ws by rw [Zcy]; exact hws)
    have I2 := I.mono s2
    have hvl := I2.df.1
    have hvm := I2.df.2.1
    walk_at "rd"
    refine Zak e2 (v := .str w0) (Zar (n := 0) rfl rfl) ?_
    walk_at "rd"
    refine ZaH (fun hd => ?_) (fun hd => ?_)
    · have hd' : w0 = defW := hd
      walk_at "rd"
      refine ZdB (SqL.of e2) fun p3 hp3 => ?_
      have ec : cutV ((w0 :: ws).map V.str) (some 1) none = ws.map V.str := ZcV (k := 1) (by simp)
      rw [ec]
      have s3 := Same.new (o := .lst (ws.map V.str)) hp3
      have e3 : upd H2 p3 (.lst (ws.map V.str)) p3 = some (.lst (ws.map V.str)) := Zae
      generalize upd H2 p3 (.lst (ws.map V.str)) = H3 at s3 e3
      refine ZcZ (SqL.of e3) ?_
      refine ZfS (xs := ws.map V.str) (Za8 (by rw [List.length_map]; lia)) (fun j ys σ Hy => An3 (∃ x1, σ = [x1]) (Same H3 Hy) (ys = ZcG (ws.take j))) ⟨⟨none, rfl⟩, Same.refl _, rfl⟩ (fun j ys σ Hy _ z_ => by obtain ⟨_, s4, _⟩ := z_; exact SqL.of (s4 _ _ e3)) ?_ ?_
      · rintro j x ys σ Hy hx hle hlt ⟨⟨x1, rfl⟩, s4, rfl⟩
        rw [List.getElem?_map] at hx
        obtain ⟨wd, ew, rfl⟩ := Option.map_eq_some_iff.mp hx
        obtain ⟨wa, wl⟩ := hwp wd (List.mem_of_getElem? ew)
        walk_at "rd"
        refine use2 ⟨wd, 60, rfl, rfl, by decide, wl, wa, fun H5 s5 => ?_⟩
        refine ⟨hlt, by simpa using hle, ⟨_, rfl⟩, s4.trans s5, ?_⟩
        rw [List.take_add_one, ew]
        unfold ZcG
        rw [List.map_append]
        rfl
      rintro ys σ Hy _ ⟨⟨x1, rfl⟩, s4, rfl⟩ p5 hp5
      rw [List.length_map, List.take_length]
      have s5 := Same.new (o := .lst (ZcG ws)) hp5
      have e5 : upd Hy p5 (.lst (ZcG ws)) p5 = some (.lst (ZcG ws)) := Zae
      generalize upd Hy p5 (.lst (ZcG ws)) = H5 at s5 e5
      have s25 := ((s2.trans s3).trans s4).trans s5
      have I5 := I.mono s25
      have hnl : (ZcG ws).length = ws.length := by unfold ZcG; rw [List.length_map]
      walk_at "rd"
      refine Zbk (SqL.of e5) ?_
      walk_at "rd"
      rw [hnl]
      refine Zed (fun h2 => ?_) (fun h2 => ?_)
      · walk_at "rd"
        refine bad ?_ _ s25
        rw [lineE]
        cases em : ws.mapM (ZaM 60) with
        | none => rfl
        | some ns =>
          have hl2 := (Zc6 em).1
          show Zdk acc w0 ns = none
          rw [hd', Zgj]
          rcases ns with _ | ⟨t, _ | ⟨b, _ | ⟨b2, r2⟩⟩⟩
          · rfl
          · rfl
          · exact absurd (by rw [hl2]; rfl) h2
          · rfl
      · walk_at "rd"
        refine ⟨p5, _, rfl, .inl (SqL.of e5), rfl, ZeR, ?_⟩
        rw [if_neg Bool.false_ne_true, ZeJ]
        refine ⟨_, rfl, ?_⟩
        cases em : ws.mapM (ZaM 60) with
        | none =>
          refine ZdT rfl ?_
          walk_at "rd"
          refine bad ?_ _ s25
          rw [lineE, em]
        | some ns =>
          refine Zec rfl ?_
          have hl2 := (Zc6 em).1
          obtain ⟨t, b, rfl⟩ : ∃ t b, ns = [t, b] := by
            rcases ns with _ | ⟨t, _ | ⟨b, _ | ⟨b2, r2⟩⟩⟩
            · simp only [List.length_nil] at hl2; lia
            · simp only [List.length_nil, List.length_cons] at hl2; lia
            · exact ⟨t, b, rfl⟩
            · simp only [List.length_cons] at hl2; lia
          rw [Zgg em] at e5
          rw [em, hd'] at lineE
          dsimp only at lineE
          rw [Zgj] at lineE
          dsimp only at lineE
          walk_at "rd"
          refine ⟨.inl ⟨rfl, vs, SqL.of I5.at'⟩, ?_⟩
          walk_at "rd"
          refine Zak e5 (v := .int t) (Zar (n := 0) rfl rfl) ?_
          walk_at "rd"
          refine Zak e5 (v := .int b) (Zar (n := 1) rfl rfl) ?_
          walk_at "rd"
          walk_at "mk"; intro l6 n6
          have s6 := Same.new (o := .lst []) n6
          have e6 : upd H5 l6 (.lst []) l6 = some (.lst []) := Zae
          generalize upd H5 l6 (.lst []) = H6 at s6 e6
          walk_at "rd"
          walk_at "mk"; intro p7 hp7
          have s7 := Same.new (o := .tup [V.int t, V.int b, V.ref l6]) hp7
          have e7 : upd H6 p7 (.tup [V.int t, V.int b, V.ref l6]) p7 = some (.tup [V.int t, V.int b, V.ref l6]) := Zae
          generalize upd H6 p7 (.tup [V.int t, V.int b, V.ref l6]) = H7 at s7 e7
          have s67 := s6.trans s7
          walk_at "rd"
          refine ZaV (s67 _ _ I5.at') (Nat.lt_of_le_of_lt (show vs.length <= 1000000 by lia) (by rw [PySem.sizeLine_eq]; decide)) ?_
          have I6 := I5.push n6 s67 e7 (s7 _ _ e6)
          have nl6 : p1 ≠ l6 := fun e => by rw [<- e, s25 _ _ ep] at n6; cases n6
          refine hN _ _ ⟨_, _, _, _, acc ++ [(t, b, [])], _, _, rfl, by rw [next, lineE], by simp; lia, fun d hd' => ?_, I6, fun hm => ?_, by rw [Zaw npq]; exact s67 _ _ (s25 _ _ ep)⟩
          · rcases List.mem_append.mp hd' with hd' | hd'
            · have := har d hd'; lia
            · rw [List.mem_singleton.mp hd']; exact Nat.zero_le _
          · rcases List.mem_append.mp hm with hm | hm
            · exact np hm
            · exact nl6 (List.mem_singleton.mp hm)
    · have hd' : ¬ w0 = defW := hd
      walk_at "rd"
      have lineN : Zgk w0 ws = none -> Zb1 acc line = none := fun e => by
        rw [lineE]
        cases em : ws.mapM (ZaM 60) with
        | none => rfl
        | some ns =>
          show Zdk acc w0 ns = none
          rw [Zgi hd']
          have : rowP w0 ns = none := by
            unfold Zgk at e
            rw [em] at e
            exact e
          rw [this]
          split <;> rfl
      refine use1 ⟨p2, w0, ws, rfl, e2, hwp, by lia, fun r v H5 er rv s5 => ?_, fun er H5 s5 => ?_⟩
      · obtain ⟨ns, em, eP⟩ := Option.bind_eq_some_iff.mp er
        rw [em] at lineE
        dsimp only at lineE
        rw [Zgi hd', eP] at lineE
        obtain ⟨tr, xr, rfl, _, _⟩ := Zbi (show Rep H5 (.tup (.str r.1 :: r.2)) v from rv)
        have I5 := I2.mono s5
        walk_at "rd"
        refine ZdI (fun z => by cases z) ?_
        walk_at "rd"
        walk_at "mk"; intro pe hpe
        have s6 := Same.new (o := .lst []) hpe
        have e6 : upd H5 pe (.lst []) pe = some (.lst []) := Zae
        generalize upd H5 pe (.lst []) = H6 at s6 e6
        have I6 := I5.mono s6
        refine rd_eqE (SqL.of I6.at') e6 ?_
        walk_at "rd"
        have s26 := (s2.trans s5).trans s6
        refine ZaH (fun h0 => ?_) (fun h0 => ?_)
        · walk_at "rd"
          have : acc = [] := List.eq_nil_of_length_eq_zero (by rw [hvl, h0]; rfl)
          rw [if_pos this] at lineE
          exact bad lineE _ s26
        · have hvn : vs ≠ [] := h0
          have hne : acc ≠ [] := fun e => hvn (List.eq_nil_of_length_eq_zero (by rw [<- hvl, e]; rfl))
          have hln : ls ≠ [] := fun e => hvn (List.eq_nil_of_length_eq_zero (by rw [<- hvm, e]; rfl))
          rw [if_neg hne] at lineE
          obtain ⟨acc0, d, rfl⟩ : ∃ a d, acc = a ++ [d] := ⟨_, _, (List.dropLast_concat_getLast hne).symm⟩
          obtain ⟨vs0, v, rfl⟩ : ∃ a d, vs = a ++ [d] := ⟨_, _, (List.dropLast_concat_getLast hvn).symm⟩
          obtain ⟨ls0, l, rfl⟩ : ∃ a d, ls = a ++ [d] := ⟨_, _, (List.dropLast_concat_getLast hln).symm⟩
          have hv0 : acc0.length = vs0.length := by simpa using hvl
          have hm0 : ls0.length = vs0.length := by simpa using hvm
          obtain ⟨t, ys, rfl, ht, hlt, _⟩ := (DefsL.front hv0 hm0 I6.df).2
          walk_at "rd"
          refine Zak I6.at' (v := .ref t) (ZhH _ _) ?_
          walk_at "rd"
          refine Zdo ht (v := .ref l) (Zar (n := 2) rfl rfl) ?_
          refine ⟨.inl ⟨rfl, _, SqL.of hlt⟩, ?_⟩
          walk_at "rd"
          have lineE : Zb1 (acc0 ++ [d]) line = some (Zee (acc0 ++ [d]) r) := lineE
          rw [ZcW] at lineE
          obtain ⟨ys', hyl, hl6, I7⟩ := I6.row hv0 hm0 (rv.mono s6.ts)
          have hdr := har d (List.mem_append_right _ List.mem_cons_self)
          refine ZaV hl6 (Nat.lt_of_le_of_lt (show ys'.length <= 1000000 by lia) (by rw [PySem.sizeLine_eq]; decide)) ?_
          refine hN _ _ ⟨_, _, _, _, _, _, _, rfl, by rw [next, lineE], by simp only [List.length_append, List.length_cons, List.length_nil] at hal ⊢; lia, fun d' hd' => ?_, I7, np, ?_⟩
          · rcases List.mem_append.mp hd' with hd' | hd'
            · have := har d' (List.mem_append_left _ hd'); lia
            · rw [List.mem_singleton.mp hd']
              simp only [List.length_append, List.length_cons, List.length_nil]
              lia
          · rw [Zaw (fun e => np (by rw [e]; exact List.mem_append_right _ List.mem_cons_self))]
            exact s26 _ _ ep
      · walk_at "rd"
        refine Zfh rfl ?_
        walk_at "rd"
        exact bad (lineN er) _ (s2.trans s5)
  · rintro σ Hx ⟨c2, c3, c4, c5, acc, vs, ls, rfl, hacc, _, _, I, _, _⟩
    walk_at "rd"
    refine k acc q Hx ?_ ⟨hq, vs, ls, I⟩
    unfold Zc3
    rw [Zcp, hls]
    rw [List.length_map, List.take_length] at hacc
    exact hacc
structure TBok (L F M : Nat) : Prop where
 l : L <= 880000
 f : F <= 2000
 m : M <= 40000
noncomputable def upL (L F M : Nat) : Nat := L + M + 12 * F + 2000
noncomputable def TBup (L F M : Nat) (t : Str) : Prop := TB (upL L F M) (2 * F + 130) (2 * M + 1000) t
theorem TB.up {L F M L' F' M' : Nat} {t : Str} (h : TB L F M t) (h1 : L <= L') (h2 : F <= F') (h3 : M <= M') : TB L' F' M' t := ⟨h.asc, Nat.le_trans h.len h1, Nat.le_trans h.fd h2, h.ln.mono h3⟩
theorem ZgG {c : Nat} : ∀ {ls : List Str}, (∀ l ∈ ls, l.length <= c) -> (ls.map (·.length)).sum <= c * ls.length
  | [], _ => Nat.le_refl _
  | x :: l, h => by
    have h1 := h x List.mem_cons_self
    have h2 := ZgG fun y hy => h y (List.mem_cons_of_mem x hy)
    rw [List.map_cons, List.sum_cons, List.length_cons, Nat.mul_succ]
    lia
theorem ZhU {t : Str} : ((Txt.split t ⟨#[10]⟩).map (·.length)).sum + (Txt.split t ⟨#[10]⟩).length = t.length + 1 := by
 have e := congrArg cs (StrLaws.join_split t ⟨#[10]⟩)
 rw [ZbA] at e
 have h := Zeo (c := 10) (ps := (Txt.split t ⟨#[10]⟩).map cs) (fun z => ZbN _ _ (List.map_eq_nil_iff.mp z))
 rw [e, ZaO, List.length_map, List.map_map] at h
 have h3 : ((Txt.split t ⟨#[10]⟩).map ((fun x : List Nat => x.length) ∘ cs)).sum = ((Txt.split t ⟨#[10]⟩).map (·.length)).sum := by congr 1
 lia
inductive Pr_spoil (x y z : V) (H : Hp) (Q : VK) : Prop
 | mk (t L F M pk p0 p1 p2 p3 b l) (_ : x = .str t) (_ : TB L F M t) (_ : TBok L F M) (_ : y = .ref pk) (_ : H pk = some (.lst [.int p0, .int p1, .int p2, .int p3])) (_ : pk ≠ b) (_ : z = .ref b) (_ : BagAt H b l) (_ : 0 <= p2 /\ p2 < 64) (_ : 0 <= p3 /\ p3 < 23) (_ : ∀ t' H', TBup L F M t' -> BagAt H' b l -> BSame b H H' -> Q (.str t') H') : Pr_spoil x y z H Q
noncomputable def Zdw : Sp := sp3 (Pr_spoil)
theorem ZlO {y z : Str} {to : TE} {σ : St} {H : Hp} {Q : VK} (h : to σ H fun x H1 => ∃ t, x = .str t /\ t.length <= 1000000 /\ Q (.str (Txt.replace t y z)) H1) : tRepl y z to σ H Q := h
theorem Zj1 {H : Hp} {q : Addr} {o : HO} (h : H q = some o) : upd H q o = H := by
 funext a
 by_cases e : a = q
 ·rw [e, Zae, h]
 ·rw [Zaw e]
theorem sc__law_each_line : FnScope ["text", "pick", "bag", "piece", "lines", "line"] ["text", "pick", "bag"] (Zag ZaY) := ⟨rfl, rfl, rfl, by decide +kernel, rfl, by decide +kernel, by decide +kernel⟩
theorem Zeh (B : Blt mg) (T__law_each_line : TopFn K mg "_law_each_line" ZaY ["text", "pick", "bag"]) (C_law_run : CalleeS P w K mg base "_law_run" 3 ["bag"] Zij) : Callee P w K mg base "_law_each_line" 4 ["text", "pick", "bag"] Zdw := by
 refine T__law_each_line.ok3 sc__law_each_line fun f cdv A outer s H v1 v2 v3 Q E hr h => ?_
 have nd := sc__law_each_line.nd
 obtain ⟨t, L, F, M, pk, p0, p1', p2, p3, b, l, rfl, tb, ok, rfl, hpk, npk, rfl, Bg, _, _, k⟩ := h
 have hL := ok.l
 have hF := ok.f
 have hM := ok.m
 have tl := tb.len
 refine' Zbd [some (.str t), some (.ref pk), some (.ref b), none, none, none] rfl ?hb ?hg
 case' hb => refine' Zac ?bab ?bac
 case' bab => refine' Zbx (i := 3) ?bad ?bae ?baf ?bag
 case bad => exact nd
 case bae => exact rfl
 case baf => exact (Or.inl rfl)
 case bag => exact (Zku (by decide) (by decide) (pe_fnS C_law_run (hr.mono (by first | decide | lia)) (by rfl) (Zaa (pv 2) Zab)))
 case' bac => refine' Zac ?bah ?bai
 case bah => exact (Zb0 (i := 4) nd rfl (Or.inl rfl) (Za4 Zab))
 case' bai => refine' Zac ?baj ?bak
 case' baj => refine' Zb8 ?bal ?bam ?ban ?bao ?bap
 case bal => exact PassesOwn.never
 case bam => exact rfl
 case' ban => refine' ZbB (K := K) ?baq ?bar
 case baq => exact rfl
 case bar => exact (k_bm (K := K) rfl PySem.F.plainAttrs_str PySem.F.slot_str_split PySem.F.type_str_split Zck (pv 0) (Zai Zan Zab))
 case bao => exact (ZaE (i := 5) nd rfl (Or.inl rfl))
 case' bap => refine' Zaf ?bas
 case' bas => refine' ZaL ?bat ?bau ?bav
 case' bat => refine' PW.pt ?baw
 case' baw => refine' ZdD ?bax ?bay
 case bax => exact (Zal Zba (Zam ZbM (Zax (k_ix (K := K) rfl) (pv 1) Zad (fun _ _ => rfl)) Zad) Zad (Zao _))
 case bay => exact (ZcP (Zal Zba (Zat ZcY (pv 5) ZaC (ZaB Zad)) Zan (Zao _)))
 case' bau => refine' Zaf ?baz
 case baz => exact (ZbL (k_bm (K := K) rfl PySem.F.plainAttrs_list PySem.F.slot_list_append PySem.F.type_list_append Zbb (pv 4) (Zaa (pv 5) Zab)))
 case' bav => refine' Zaf ?bba
 case' bba => refine' ZaL ?bbb ?bbc ?bbd
 case bbb => exact (Zal Zba (Zam ZbM (Zax (k_ix (K := K) rfl) (pv 1) Zad (fun _ _ => rfl)) Zad) Zad (Zao _))
 case' bbc => refine' Zaf ?bbe
 case' bbe => refine' ZbL ?bbf
 case' bbf => refine' k_bm (K := K) ?bbg ?bbh ?bbi ?bbj ?bbk ?bbl ?bbm
 case bbg => exact rfl
 case bbh => exact PySem.F.plainAttrs_list
 case bbi => exact PySem.F.slot_list_append
 case bbj => exact PySem.F.type_list_append
 case bbk => exact Zbb
 case bbl => exact (pv 4)
 case bbm => exact (ZaW (Zam Zbj (pv 3) (pv 5)) Zab)
 case' bbd => refine' Zaf ?bbn
 case' bbn => refine' ZaL ?bbo ?bbp ?bbq
 case bbo => exact (Zal Zba (Zam ZbM (Zax (k_ix (K := K) rfl) (pv 1) Zad (fun _ _ => rfl)) Zad) Zad (Zao _))
 case' bbp => refine' Zaf ?bbr
 case' bbr => refine' ZbL ?bbs
 case' bbs => refine' k_bm (K := K) ?bbt ?bbu ?bbv ?bbw ?bbx ?bby ?bbz
 case bbt => exact rfl
 case bbu => exact PySem.F.plainAttrs_list
 case bbv => exact PySem.F.slot_list_append
 case bbw => exact PySem.F.type_list_append
 case bbx => exact Zbb
 case bby => exact (pv 4)
 case bbz => exact (ZaW (Zam Zbj (pv 5) (pv 3)) Zab)
 case' bbq => refine' Zaf ?bca
 case' bca => refine' ZbL ?bcb
 case' bcb => refine' k_bm (K := K) ?bcc ?bcd ?bce ?bcf ?bcg ?bch ?bci
 case bcc => exact rfl
 case bcd => exact PySem.F.plainAttrs_list
 case bce => exact PySem.F.slot_list_append
 case bcf => exact PySem.F.type_list_append
 case bcg => exact Zbb
 case bch => exact (pv 4)
 case bci => exact (ZaJ (k_bm0 (K := K) rfl PySem.F.plainAttrs_str PySem.F.slot_str_upper PySem.F.type_str_upper ZkF (pv 5)) Zab)
 case' bak => refine' Zaf ?bcj
 case bcj => exact (Zas (k_bm (K := K) rfl PySem.F.plainAttrs_str PySem.F.slot_str_join PySem.F.type_str_join (Zc7 (K := K) rfl) Zan (Zaa (pv 4) Zab)))
 walk_at "rd"
 refine ZlO ?_
 walk_at "rd"
 refine use1 ⟨b, l, rfl, Bg, fun z H1 az lz B1 b1 => ?_⟩
 refine ⟨z, rfl, by lia, ?_⟩
 rw [show (Str.ofString "\n") = (⟨#[10]⟩ : Str) from by decide, show Str.ofString "" = Str.empty from by decide]
 obtain ⟨pf, pl, pm⟩ := ZiA z
 generalize Txt.replace z ⟨#[10]⟩ Str.empty = pc at pf pl pm
 have pa : Zbl pc := asc_mem.mpr fun c hc => asc_mem.mp az c (pm c hc)
 have pl : pc.length <= 12 := Nat.le_trans pl lz
 have hpk1 := b1 _ _ npk hpk
 walk_at "rd"
 walk_at "mk"; intro q hq
 have s2 := Same.new (o := .lst []) hq
 have e2 : upd H1 q (.lst []) q = some (.lst []) := Zae
 have nq := B1.ne hq
 have nqp : q ≠ pk := fun z => by rw [z, hpk1] at hq; cases hq
 generalize upd H1 q (.lst []) = H2 at s2 e2
 walk_at "rd"
 refine ⟨rfl, ?_⟩
 walk_at "rd"
 refine Zdb (by decide) (Za8 (by lia)) fun p1 hp1 => ?_
 rw [show (Str.ofString "\n") = (⟨#[10]⟩ : Str) from by decide]
 obtain ⟨hcnt, hpart⟩ := tb.lines
 have hsz := ZhU (t := t)
 have hlne := ZbN t ⟨#[10]⟩
 generalize Txt.split t ⟨#[10]⟩ = lines at hcnt hpart hsz hlne
 have n1 : p1 ≠ q := fun z => by rw [z, e2] at hp1; cases hp1
 have e1 : upd H2 p1 (.lst (lines.map V.str)) p1 = some (.lst (lines.map V.str)) := Zae
 have s3 := Same.new (o := .lst (lines.map V.str)) hp1
 generalize upd H2 p1 (.lst (lines.map V.str)) = H3 at s3 e1
 have eq3 := s3 _ _ e2
 have pk3 := s3 _ _ (s2 _ _ hpk1)
 have B3 := (B1.mono s2).mono s3
 have b3 : BSame b H H3 := (b1.to s2).to s3
 refine ZcZ (SqL.of e1) ?_
 refine ZeQ (xs := lines.map V.str) (fun i σ Hx => Ex2 fun (c5 : Option V) (ls : List Str) => An5 (σ = [some (.str t), some (.ref pk), some (.ref b), some (.str pc), some (.ref q), c5]) (Hx = upd H3 q (.lst (ls.map V.str))) (ls.length = i) ((ls.map (·.length)).sum <= ((lines.take i).map (·.length)).sum + 12 * i) (∀ y ∈ ls, Zbl y /\ y.length <= M + 12 /\ 10 ∉ cs y))
  ⟨none, [], rfl, by rw [List.map_nil]; exact (Zj1 eq3).symm, rfl, by simp, fun y hy => by cases hy⟩ (fun i σ Hx _ z_ => by obtain ⟨_, _, _, e, _⟩ := z_; exact SqL.of (by rw [e, Zaw n1]; exact e1)) ?_ ?_
 ·rintro i x σ Hx hx ⟨c5, ls, rfl, rfl, hll, hsum, hall⟩ N hN
  rw [List.getElem?_map] at hx
  obtain ⟨ln, el, rfl⟩ := Option.map_eq_some_iff.mp hx
  obtain ⟨la, lm, lf⟩ := hpart ln (List.mem_of_getElem? el)
  have hil : i < lines.length := (List.getElem?_eq_some_iff.mp el).1
  have eqx : upd H3 q (.lst (ls.map V.str)) q = some (.lst (ls.map V.str)) := Zae
  have pkx : upd H3 q (.lst (ls.map V.str)) pk = some (.lst [.int p0, .int p1', .int p2, .int p3]) := by rw [Zaw (Ne.symm nqp)]; exact pk3
  have fin : ∀ y, Zbl y -> y.length <= ln.length + 12 -> 10 ∉ cs y -> N [some (.str t), some (.ref pk), some (.ref b), some (.str pc), some (.ref q), some (.str ln)] (upd (upd H3 q (.lst (ls.map V.str))) q (.lst (ls.map V.str ++ [.str y]))) := fun y ya yl yf => hN _ _ ⟨_, ls ++ [y], rfl, by rw [Zh9, List.map_append]; rfl, by rw [List.length_append, hll]; rfl, by
   rw [List.take_add_one, el]
   simp only [List.map_append, List.sum_append, List.map_cons, List.map_nil, List.sum_cons, List.sum_nil, Option.toList]
   lia, fun z hz => by
   rcases List.mem_append.mp hz with hz | hz
   ·exact hall z hz
   ·rw [List.mem_singleton.mp hz]; exact ⟨ya, by lia, yf⟩⟩
  have room : (ls.map V.str).length < PySem.sizeLine := by rw [List.length_map, PySem.sizeLine_eq]; lia
  walk_at "rd"
  refine Zak pkx (v := .int p3) (Zar (n := 3) rfl rfl) ?_
  walk_at "rd"
  refine rd_I (by decide) ?_
  walk_at "rd"
  refine ZaH (fun _ => ?_) (fun _ => ?_)
  ·walk_at "rd"
   refine ZiF (by lia) fun _ => ?_
   walk_at "rd"
   refine ZaH (fun _ => ?_) (fun _ => ?_)
   ·walk_at "rd"
    refine ⟨.inl ⟨rfl, _, SqL.of eqx⟩, ?_⟩
    walk_at "rd"
    refine ZaV eqx room ?_
    exact fin _ la (by lia) lf
   ·walk_at "rd"
    refine Zak pkx (v := .int p2) (Zar (n := 2) rfl rfl) ?_
    walk_at "rd"
    refine rd_I (by decide) ?_
    walk_at "rd"
    refine ZaH (fun _ => ?_) (fun _ => ?_)
    ·walk_at "rd"
     refine ⟨.inl ⟨rfl, _, SqL.of eqx⟩, ?_⟩
     walk_at "rd"
     refine Za9 (Za8 (by lia)) ?_
     walk_at "rd"
     refine ZaV eqx room ?_
     exact fin _ (Zcq pa la) (by rw [ZaU]; lia) (by rw [Zbc]; exact fun z => (List.mem_append.mp z).elim pf lf)
    ·walk_at "rd"
     refine Zak pkx (v := .int p2) (Zar (n := 2) rfl rfl) ?_
     walk_at "rd"
     refine rd_I (by decide) ?_
     walk_at "rd"
     refine ZaH (fun _ => ?_) (fun _ => ?_)
     ·walk_at "rd"
      refine ⟨.inl ⟨rfl, _, SqL.of eqx⟩, ?_⟩
      walk_at "rd"
      refine Za9 (Za8 (by lia)) ?_
      walk_at "rd"
      refine ZaV eqx room ?_
      exact fin _ (Zcq la pa) (by rw [ZaU]; lia) (by rw [Zbc]; exact fun z => (List.mem_append.mp z).elim lf pf)
     ·walk_at "rd"
      refine ⟨.inl ⟨rfl, _, SqL.of eqx⟩, ?_⟩
      walk_at "rd"
      refine ⟨rfl, ?_⟩
      refine Zhj la (by lia) ?_
      obtain ⟨u1, u2, u3⟩ := Zfq la
      walk_at "rd"
      refine ZaV eqx room ?_
      exact fin _ u1 (by lia) (u3 lf)
  ·walk_at "rd"
   refine Zak pkx (v := .int p2) (Zar (n := 2) rfl rfl) ?_
   walk_at "rd"
   refine rd_I (by decide) ?_
   walk_at "rd"
   refine ZaH (fun _ => ?_) (fun _ => ?_)
   ·walk_at "rd"
    refine ⟨.inl ⟨rfl, _, SqL.of eqx⟩, ?_⟩
    walk_at "rd"
    refine Za9 (Za8 (by lia)) ?_
    walk_at "rd"
    refine ZaV eqx room ?_
    exact fin _ (Zcq pa la) (by rw [ZaU]; lia) (by rw [Zbc]; exact fun z => (List.mem_append.mp z).elim pf lf)
   ·walk_at "rd"
    refine Zak pkx (v := .int p2) (Zar (n := 2) rfl rfl) ?_
    walk_at "rd"
    refine rd_I (by decide) ?_
    walk_at "rd"
    refine ZaH (fun _ => ?_) (fun _ => ?_)
    ·walk_at "rd"
     refine ⟨.inl ⟨rfl, _, SqL.of eqx⟩, ?_⟩
     walk_at "rd"
     refine Za9 (Za8 (by lia)) ?_
     walk_at "rd"
     refine ZaV eqx room ?_
     exact fin _ (Zcq la pa) (by rw [ZaU]; lia) (by rw [Zbc]; exact fun z => (List.mem_append.mp z).elim lf pf)
    ·walk_at "rd"
     refine ⟨.inl ⟨rfl, _, SqL.of eqx⟩, ?_⟩
     walk_at "rd"
     refine ⟨rfl, ?_⟩
     refine Zhj la (by lia) ?_
     obtain ⟨u1, u2, u3⟩ := Zfq la
     walk_at "rd"
     refine ZaV eqx room ?_
     exact fin _ u1 (by lia) (u3 lf)
 ·rintro σ Hx ⟨c5, ls, rfl, rfl, hll, hsum, hall⟩
  rw [List.length_map] at hll hsum
  rw [List.take_length] at hsum
  have hne : ls ≠ [] := fun e => by rw [e] at hll; exact hlne (List.eq_nil_of_length_eq_zero hll.symm)
  walk_at "rd"
  refine ⟨rfl, ?_⟩
  walk_at "rd"
  refine ZcN (zs := ls) (SqL.of Zae) (by decide) (by lia) ?_
  rw [show (Str.ofString "\n") = (⟨#[10]⟩ : Str) from by decide]
  refine k _ _ (TB.up (TB.join (N := upL L F M) (F := F) hne (by lia) hall (by unfold upL; lia)) (Nat.le_refl _) (by lia) (by lia)) (B3.wr nq.1 nq.2) (fun a o n e => ?_)
  rw [Zaw (fun z => ?_)]
  ·exact b3 _ _ n e
  ·rw [z] at e
   have := b1 _ _ (Ne.symm nq.1) e
   rw [this] at hq
   cases hq
theorem ZlW {H : Hp} {a : Addr} {kvs : List (Key × V)} {Q : VK} (h : H a = some (.dK kvs)) (q : ∀ p, H p = none -> Q (.ref p) (upd H p (.lst (kvs.map fun q => kV q.1)))) : rLstD [.ref a] H Q := ⟨a, kvs, rfl, h, q⟩
inductive Pr_bent_lines (x y : V) (H : Hp) (Q : VK) : Prop
 | mk (t L F M pk p0 p1 p2 p3) (_ : x = .str t) (_ : TB L F M t) (_ : TBok L F M) (_ : y = .ref pk) (_ : H pk = some (.lst [.int p0, .int p1, .int p2, .int p3])) (_ : 0 <= p2 /\ p2 < 64) (_ : 0 <= p3 /\ p3 < 23) (_ : ∀ t' H', TBup L F M t' -> Same H H' -> Q (.str t') H') : Pr_bent_lines x y H Q
noncomputable def Zdy : Sp := sp2 (Pr_bent_lines)
noncomputable def wordsB : List Str := (["1", "-", "", "def", "back", "call", "0", "7", "-1", "lane", "00"] : List Str) ++ lettersL.map (·.1)
theorem Zh5 : wordsB.length = 23 /\ ∀ z ∈ wordsB, (∀ c ∈ cs z, c < 128) /\ z.length <= 7 /\ 10 ∉ cs z := by decide +kernel
inductive BI (t : Str) (pk pl ps pw : Addr) (a kk : Nat) (wd : Str) (lines ws : List Str) (H : Hp) (L F M : Nat) (p0 : Int) (n : Int) (σ : St) (Hx : Hp) : Prop
 | mk (p ls c8 c9 c10 c11) (_ : σ = [some (.str t), some (.ref pk), some (.ref p), some (.int a), some (.ref ps), some (.int kk), some (.ref pw), some (.str wd), c8, c9, c10, c11]) (_ : Hx p = some (.lst (ls.map V.str))) (_ : LSt (L + M + 1900) (F + 128) (M + 900) ls) (_ : n < p0 -> p = pl /\ ls = lines) (_ : Same H Hx) (_ : Hx ps = some (.lst (ws.map V.str))) : BI t pk pl ps pw a kk wd lines ws H L F M p0 n σ Hx
theorem sc__law_bent_lines : FnScope ["text", "pick", "lines", "at", "some", "k", "words", "word", "rest", "other", "many", "more"] ["text", "pick"] (Zag ZaR) := ⟨rfl, rfl, rfl, by decide +kernel, rfl, by decide +kernel, by decide +kernel⟩
theorem Zd0 (B : Blt mg) (T__law_bent_lines : TopFn K mg "_law_bent_lines" ZaR ["text", "pick"]) (Zaz : Callee P w K mg base "_law_letters" 1 [] Zcm) : Callee P w K mg base "_law_bent_lines" 2 ["text", "pick"] Zdy := by
 refine T__law_bent_lines.ok2 sc__law_bent_lines fun f cdv A outer s H v1 v2 Q E hr h => ?_
 have nd := sc__law_bent_lines.nd
 obtain ⟨t, L, F, M, pk, p0, p1', p2, p3, rfl, tb, ok, rfl, hpk, hp2, hp3, k⟩ := h
 have hL := ok.l
 have hF := ok.f
 have hM := ok.m
 have tl := tb.len
 refine' Zbd [some (.str t), some (.ref pk), none, none, none, none, none, none, none, none, none, none] rfl ?hb ?hg
 case' hb => refine' Zac ?bab ?bac
 case' bab => refine' Zbx (i := 2) ?bad ?bae ?baf ?bag
 case bad => exact nd
 case bae => exact rfl
 case baf => exact (Or.inl rfl)
 case bag => exact (k_bm (K := K) rfl PySem.F.plainAttrs_str PySem.F.slot_str_split PySem.F.type_str_split Zck (pv 0) (Zai Zan Zab))
 case' bac => refine' Zac ?bah ?bai
 case' bah => refine' Za0 (i := 3) ?baj ?bak ?bal ?bam
 case baj => exact nd
 case bak => exact rfl
 case bal => exact (Or.inl rfl)
 case' bam => refine' Zam ?ban ?bao ?bap
 case ban => exact ZbM
 case bao => exact (Zax (k_ix (K := K) rfl) (pv 1) Zad (fun _ _ => rfl))
 case bap => exact (Zap (Zb9 (K := K) rfl) (by rfl) B.b_len Zbw (Zaa (pv 2) Zab))
 case' bai => refine' Zac ?baq ?bar
 case' baq => refine' Zbx (i := 4) ?bas ?bat ?bau ?bav
 case bas => exact nd
 case bat => exact rfl
 case bau => exact (Or.inl rfl)
 case' bav => refine' k_bm (K := K) ?baw ?bax ?bay ?baz ?bba ?bbb ?bbc
 case baw => exact rfl
 case bax => exact PySem.F.plainAttrs_str
 case bay => exact PySem.F.slot_str_split
 case baz => exact PySem.F.type_str_split
 case bba => exact Zck
 case bbb => exact (Zax (k_ix (K := K) rfl) (pv 2) (pv 3) (fun _ _ => rfl))
 case bbc => exact (Zai Zan Zab)
 case' bar => refine' Zac ?bbd ?bbe
 case' bbd => refine' Za0 (i := 5) ?bbf ?bbg ?bbh ?bbi
 case bbf => exact nd
 case bbg => exact rfl
 case bbh => exact (Or.inl rfl)
 case' bbi => refine' Zam ?bbj ?bbk ?bbl
 case bbj => exact ZbM
 case bbk => exact (Zax (k_ix (K := K) rfl) (pv 1) Zad (fun _ _ => rfl))
 case bbl => exact (Zam Za7 (Zap (Zb9 (K := K) rfl) (by rfl) B.b_len Zbw (Zaa (pv 4) Zab)) Zad)
 case' bbe => refine' Zac ?bbm ?bbn
 case' bbm => refine' Zb0 (i := 6) ?bbo ?bbp ?bbq ?bbr
 case bbo => exact nd
 case bbp => exact rfl
 case bbq => exact (Or.inl rfl)
 case' bbr => refine' Za4 ?bbs
 case' bbs => refine' Zai ?bbt ?bbu
 case bbt => exact Zan
 case' bbu => refine' Zai ?bbv ?bbw
 case bbv => exact Zan
 case' bbw => refine' Zai ?bbx ?bby
 case bbx => exact Zan
 case bby => exact (Zai Zan (Zai Zan (Zai Zan (Zai Zan (Zai Zan (Zai Zan (Zai Zan (Zai Zan Zab))))))))
 case' bbn => refine' Zac ?bbz ?bca
 case' bbz => refine' Zdq (i := 7) ?bcb ?bcc ?bcd ?bce
 case bcb => exact nd
 case bcc => exact rfl
 case bcd => exact (Or.inl rfl)
 case' bce => refine' Zax ?bcf ?bcg ?bch ?bci
 case bcf => exact (k_ix (K := K) rfl)
 case' bcg => refine' Zam ?bcj ?bck ?bcl
 case bcj => exact ZbU
 case bck => exact (pv 6)
 case bcl => exact (ZaS (ZdX rfl) (by rfl) B.b_list ZfX (ZaJ (Zfc Zaz (hr.mono (by first | decide | lia)) (by rfl)) Zab))
 case bch => exact (Zax (k_ix (K := K) rfl) (pv 1) Zad (fun _ _ => rfl))
 case bci => exact (fun _ _ => rfl)
 case' bca => refine' Zac ?bcm ?bcn
 case' bcm => refine' ZaL ?bco ?bcp ?bcq
 case bco => exact (Zal Zba (Zax (k_ix (K := K) rfl) (pv 1) Zad (fun _ _ => rfl)) Zad (Zao _))
 case' bcp => refine' Zaf ?bcr
 case' bcr => refine' Za0 (i := 2) ?bcs ?bct ?bcu ?bcv
 case bcs => exact nd
 case bct => exact rfl
 case bcu => exact (Or.inl rfl)
 case' bcv => refine' Zam ?bcw ?bcx ?bcy
 case bcw => exact ZbU
 case bcx => exact (Zat (k_sl (K := K) rfl) (pv 2) ZaC (ZaB (pv 3)))
 case bcy => exact (Zat (k_sl (K := K) rfl) (pv 2) (ZaB (Zam Za7 (pv 3) Zad)) ZaC)
 case bcq => exact Zaq
 case' bcn => refine' Zac ?bcz ?bda
 case' bcz => refine' ZaL ?bdb ?bdc ?bdd
 case bdb => exact (Zal Zba (Zax (k_ix (K := K) rfl) (pv 1) Zad (fun _ _ => rfl)) Zad (Zao _))
 case' bdc => refine' Zac ?bde ?bdf
 case' bde => refine' Za0 (i := 8) ?bdg ?bdh ?bdi ?bdj
 case bdg => exact nd
 case bdh => exact rfl
 case bdi => exact (Or.inl rfl)
 case' bdj => refine' Zam ?bdk ?bdl ?bdm
 case bdk => exact ZbU
 case bdl => exact (Zat (k_sl (K := K) rfl) (pv 2) ZaC (ZaB (pv 3)))
 case bdm => exact (Zat (k_sl (K := K) rfl) (pv 2) (ZaB (Zam Za7 (pv 3) Zad)) ZaC)
 case' bdf => refine' Zac ?bdn ?bdo
 case' bdn => refine' Za0 (i := 9) ?bdp ?bdq ?bdr ?bds
 case bdp => exact nd
 case bdq => exact rfl
 case bdr => exact (Or.inl rfl)
 case' bds => refine' Zam ?bdt ?bdu ?bdv
 case bdt => exact ZbM
 case bdu => exact (Zax (k_ix (K := K) rfl) (pv 1) Zad (fun _ _ => rfl))
 case bdv => exact (Zap (Zb9 (K := K) rfl) (by rfl) B.b_len Zbw (Zaa (pv 2) Zab))
 case' bdo => refine' Zaf ?bdw
 case' bdw => refine' Za0 (i := 2) ?bdx ?bdy ?bdz ?bea
 case bdx => exact nd
 case bdy => exact rfl
 case bdz => exact (Or.inl rfl)
 case' bea => refine' Zam ?beb ?bec ?bed
 case beb => exact ZbU
 case' bec => refine' Zam ?bee ?bef ?beg
 case bee => exact ZbU
 case bef => exact (Zat (k_sl (K := K) rfl) (pv 8) ZaC (ZaB (pv 9)))
 case beg => exact (Za4 (Za1 (Zax (k_ix (K := K) rfl) (pv 2) (pv 3) (fun _ _ => rfl)) Zab))
 case bed => exact (Zat (k_sl (K := K) rfl) (pv 8) (ZaB (pv 9)) ZaC)
 case bdd => exact Zaq
 case' bda => refine' Zac ?beh ?bei
 case' beh => refine' ZaL ?bej ?bek ?bel
 case bej => exact (Zal Zba (Zax (k_ix (K := K) rfl) (pv 1) Zad (fun _ _ => rfl)) Zad (Zao _))
 case' bek => refine' Zaf ?bem
 case' bem => refine' Za0 (i := 2) ?ben ?beo ?bep ?beq
 case ben => exact nd
 case beo => exact rfl
 case bep => exact (Or.inl rfl)
 case' beq => refine' Zam ?ber ?bes ?bet
 case ber => exact ZbU
 case' bes => refine' Zam ?beu ?bev ?bew
 case beu => exact ZbU
 case bev => exact (Zat (k_sl (K := K) rfl) (pv 2) ZaC (ZaB (pv 3)))
 case bew => exact (Za4 (Za1 (Zax (k_ix (K := K) rfl) (pv 2) (pv 3) (fun _ _ => rfl)) Zab))
 case bet => exact (Zat (k_sl (K := K) rfl) (pv 2) (ZaB (pv 3)) ZaC)
 case bel => exact Zaq
 case' bei => refine' Zac ?bex ?bey
 case' bex => refine' ZaL ?bez ?bfa ?bfb
 case bez => exact (Zal Zba (Zax (k_ix (K := K) rfl) (pv 1) Zad (fun _ _ => rfl)) Zad (Zao _))
 case' bfa => refine' Zaf ?bfc
 case' bfc => refine' Zc4 ?bfd ?bfe
 case' bfd => refine' k_bm (K := K) ?bff ?bfg ?bfh ?bfi ?bfj ?bfk ?bfl
 case bff => exact rfl
 case bfg => exact PySem.F.plainAttrs_str
 case bfh => exact PySem.F.slot_str_join
 case bfi => exact PySem.F.type_str_join
 case bfj => exact (Zc7 (K := K) rfl)
 case bfk => exact Zan
 case' bfl => refine' ZaW ?bfm ?bfn
 case' bfm => refine' Zam ?bfo ?bfp ?bfq
 case bfo => exact ZbU
 case bfp => exact (Zam ZbU (Zat (k_sl (K := K) rfl) (pv 4) ZaC (ZaB (pv 5))) (Za4 (Zaa (pv 7) Zab)))
 case bfq => exact (Zat (k_sl (K := K) rfl) (pv 4) (ZaB (pv 5)) ZaC)
 case bfn => exact Zab
 case bfe => exact (ZdE (pv 2) (pv 3) Zch)
 case bfb => exact Zaq
 case' bey => refine' Zac ?bfr ?bfs
 case' bfr => refine' ZaL ?bft ?bfu ?bfv
 case bft => exact (Zal Zba (Zax (k_ix (K := K) rfl) (pv 1) Zad (fun _ _ => rfl)) Zad (Zao _))
 case' bfu => refine' Zaf ?bfw
 case' bfw => refine' Zc4 ?bfx ?bfy
 case' bfx => refine' k_bm (K := K) ?bfz ?bga ?bgb ?bgc ?bgd ?bge ?bgf
 case bfz => exact rfl
 case bga => exact PySem.F.plainAttrs_str
 case bgb => exact PySem.F.slot_str_join
 case bgc => exact PySem.F.type_str_join
 case bgd => exact (Zc7 (K := K) rfl)
 case bge => exact Zan
 case' bgf => refine' ZaW ?bgg ?bgh
 case' bgg => refine' Zam ?bgi ?bgj ?bgk
 case bgi => exact ZbU
 case bgj => exact (Zat (k_sl (K := K) rfl) (pv 4) ZaC (ZaB (pv 5)))
 case bgk => exact (Zat (k_sl (K := K) rfl) (pv 4) (ZaB (Zam Za7 (pv 5) Zad)) ZaC)
 case bgh => exact Zab
 case bfy => exact (ZdE (pv 2) (pv 3) Zch)
 case bfv => exact Zaq
 case' bfs => refine' Zac ?bgl ?bgm
 case' bgl => refine' ZaL ?bgn ?bgo ?bgp
 case bgn => exact (Zal Zba (Zax (k_ix (K := K) rfl) (pv 1) Zad (fun _ _ => rfl)) Zad (Zao _))
 case' bgo => refine' Zaf ?bgq
 case' bgq => refine' Zc4 ?bgr ?bgs
 case' bgr => refine' k_bm (K := K) ?bgt ?bgu ?bgv ?bgw ?bgx ?bgy ?bgz
 case bgt => exact rfl
 case bgu => exact PySem.F.plainAttrs_str
 case bgv => exact PySem.F.slot_str_join
 case bgw => exact PySem.F.type_str_join
 case bgx => exact (Zc7 (K := K) rfl)
 case bgy => exact Zan
 case' bgz => refine' ZaW ?bha ?bhb
 case' bha => refine' Zam ?bhc ?bhd ?bhe
 case bhc => exact ZbU
 case bhd => exact (Zam ZbU (Zat (k_sl (K := K) rfl) (pv 4) ZaC (ZaB (pv 5))) (Za4 (Zaa (pv 7) Zab)))
 case bhe => exact (Zat (k_sl (K := K) rfl) (pv 4) (ZaB (Zam Za7 (pv 5) Zad)) ZaC)
 case bhb => exact Zab
 case bgs => exact (ZdE (pv 2) (pv 3) Zch)
 case bgp => exact Zaq
 case' bgm => refine' Zac ?bhf ?bhg
 case' bhf => refine' ZaL ?bhh ?bhi ?bhj
 case bhh => exact (Zal Zba (Zax (k_ix (K := K) rfl) (pv 1) Zad (fun _ _ => rfl)) Zad (Zao _))
 case' bhi => refine' Zac ?bhk ?bhl
 case' bhk => refine' Za0 (i := 10) ?bhm ?bhn ?bho ?bhp
 case bhm => exact nd
 case bhn => exact rfl
 case bho => exact (Or.inl rfl)
 case' bhp => refine' Zam ?bhq ?bhr ?bhs
 case bhq => exact Za7
 case bhr => exact (Zam ZeH Zad (Zax (k_ix (K := K) rfl) (pv 1) Zad (fun _ _ => rfl)))
 case bhs => exact (Zam ZbM (Zax (k_ix (K := K) rfl) (pv 1) Zad (fun _ _ => rfl)) Zad)
 case' bhl => refine' Zac ?bht ?bhu
 case' bht => refine' Zb0 (i := 11) ?bhv ?bhw ?bhx ?bhy
 case bhv => exact nd
 case bhw => exact rfl
 case bhx => exact (Or.inl rfl)
 case' bhy => refine' Za4 ?bhz
 case' bhz => refine' ZaW ?bia ?bib
 case bia => exact (Zam Zli (Za4 (Zai Zan Zab)) (pv 10))
 case' bib => refine' ZaW ?bic ?bid
 case bic => exact (Zam Zli (Za4 (Zai Zan Zab)) (pv 10))
 case bid => exact (Zel (Za4 (ZaW (Zam Zbj Zan (Zam ZeG Zan (Zam ZeH Zad (pv 10)))) Zab)) Zab)
 case' bhu => refine' Zaf ?bie
 case' bie => refine' Za0 (i := 2) ?big ?bih ?bii ?bij
 case big => exact nd
 case bih => exact rfl
 case bii => exact (Or.inl rfl)
 case' bij => refine' Zam ?bik ?bil ?bim
 case bik => exact ZbU
 case' bil => refine' Zam ?bin ?bio ?bip
 case bin => exact ZbU
 case bio => exact (Zat (k_sl (K := K) rfl) (pv 2) ZaC (ZaB (Zam Za7 (pv 3) Zad)))
 case' bip => refine' Zax ?biq ?bir ?bis ?bit
 case biq => exact (k_ix (K := K) rfl)
 case bir => exact (pv 11)
 case bis => exact (Zam ZbM (Zam Zde (Zax (k_ix (K := K) rfl) (pv 1) Zad (fun _ _ => rfl)) Zad) Zad)
 case bit => exact (fun _ _ => rfl)
 case bim => exact (Zat (k_sl (K := K) rfl) (pv 2) (ZaB (Zam Za7 (pv 3) Zad)) ZaC)
 case bhj => exact Zaq
 case' bhg => refine' Zaf ?biu
 case' biu => refine' Zas ?biv
 case' biv => refine' Zam ?biw ?bix ?biy
 case biw => exact Zbj
 case' bix => refine' Zam ?biz ?bja ?bjb
 case biz => exact Zbj
 case' bja => refine' Zam ?bjc ?bjd ?bje
 case bjc => exact ZeG
 case bjd => exact Zan
 case' bje => refine' ZaS ?bjf ?bjg ?bjh ?bji ?bjj
 case bjf => exact ZeV
 case bjg => exact (by rfl)
 case bjh => exact B.b_int
 case bji => exact ZeZ
 case bjj => exact (ZfG (ZcS Zba (Zax (k_ix (K := K) rfl) (pv 1) Zad (fun _ _ => rfl)) Zad (Zao _)) Zab)
 case bjb => exact (k_bm (K := K) rfl PySem.F.plainAttrs_str PySem.F.slot_str_join PySem.F.type_str_join (Zc7 (K := K) rfl) Zan (Zaa (pv 2) Zab))
 case' biy => refine' Zam ?bjk ?bjl ?bjm
 case bjk => exact ZeG
 case bjl => exact Zan
 case' bjm => refine' ZaS ?bjn ?bjo ?bjp ?bjq ?bjr
 case bjn => exact ZeV
 case bjo => exact (by rfl)
 case bjp => exact B.b_int
 case bjq => exact ZeZ
 case bjr => exact (ZfG (ZcS Zba (Zax (k_ix (K := K) rfl) (pv 1) Zad (fun _ _ => rfl)) Zad (Zao _)) Zab)
 walk_at "rd"
 refine ⟨rfl, ?_⟩
 walk_at "rd"
 refine ZdA (c := 10) (by decide) (by lia) fun pl H1 n1 s1 e1 => ?_
 have LS := tb.lst
 have hlne := ZbN t ⟨#[10]⟩
 generalize Txt.split t ⟨#[10]⟩ = lines at LS hlne e1
 have hlc := LS.cnt
 have hpos : 0 < lines.length := List.length_pos_iff.mpr hlne
 have pk1 := s1 _ _ hpk
 walk_at "rd"
 refine Zak pk1 (v := .int p1') (Zar (n := 1) rfl rfl) ?_
 walk_at "rd"
 refine Zbk (SqL.of e1) ?_
 rw [List.length_map]
 walk_at "rd"
 refine rd_I (by lia) ?_
 obtain ⟨a, ea, ha⟩ := Zhs p1' hpos
 rw [ea]
 have hln := LS.all _ (List.getElem_mem ha)
 have egl : (lines.map V.str)[a]? = some (V.str lines[a]) := by rw [List.getElem?_map, List.getElem?_eq_getElem ha]; rfl
 have hll := hln.2.1
 walk_at "rd"
 refine Zak e1 (v := .str lines[a]) (Zar (n := a) rfl egl) ?_
 refine ⟨rfl, ?_⟩
 walk_at "rd"
 refine ZdA (c := 32) (by decide) (by lia) fun ps H2 n2 s2 e2 => ?_
 have W := hln.words
 have hwne := ZbN lines[a] ⟨#[32]⟩
 generalize Txt.split lines[a] ⟨#[32]⟩ = ws at W hwne e2
 have hwc := W.cnt
 walk_at "rd"
 refine Zak (s2 _ _ pk1) (v := .int p2) (Zar (n := 2) rfl rfl) ?_
 walk_at "rd"
 refine Zbk (SqL.of e2) ?_
 rw [List.length_map]
 walk_at "rd"
 refine rd_I (by lia) ?_
 obtain ⟨kk, ek, hk⟩ := Zhs p2 (show 0 < ws.length + 1 by lia)
 rw [show ((ws.length : Int) + 1) = ((ws.length + 1 : Nat) : Int) by lia, ek]
 walk_at "rd"
 walk_at "mk"; intro p3' n3
 have s3 := Same.new (o := .lst ((["1", "-", "", "def", "back", "call", "0", "7", "-1", "lane", "00"] : List Str).map V.str)) n3
 have e3 := Zae (H := H2) (a := p3') (o := .lst ((["1", "-", "", "def", "back", "call", "0", "7", "-1", "lane", "00"] : List Str).map V.str))
 change Zdl 6 (V.ref p3') _ (upd H2 p3' (.lst ((["1", "-", "", "def", "back", "call", "0", "7", "-1", "lane", "00"] : List Str).map V.str))) _
 generalize upd H2 p3' (.lst ((["1", "-", "", "def", "back", "call", "0", "7", "-1", "lane", "00"] : List Str).map V.str)) = H3 at s3 e3
 walk_at "rd"
 refine use0 fun p4 H4 n4 e4 s4 => ?_
 walk_at "rd"
 refine ZlW e4 fun p5 n5 => ?_
 have s5 := Same.new (o := .lst (lettersKV.map fun q => kV q.1)) n5
 have e5 : upd H4 p5 (.lst (lettersKV.map fun q => kV q.1)) p5 = some (.lst ((lettersL.map (·.1)).map V.str)) := Zae
 generalize upd H4 p5 (.lst (lettersKV.map fun q => kV q.1)) = H5 at s5 e5
 refine Zdp (s5 _ _ (s4 _ _ e3)) e5 (by decide) fun p6 H6 n6 s6 e6 => ?_
 have e6 : H6 p6 = some (.lst (wordsB.map V.str)) := e6
 have s26 := ((s3.trans s4).trans s5).trans s6
 have s16 := s2.trans s26
 walk_at "rd"
 refine Zak (s16 _ _ pk1) (v := .int p3) (Zar (n := 3) rfl rfl) ?_
 obtain ⟨w1, w2⟩ := Zh5
 have h3 : p3.toNat < wordsB.length := by lia
 refine Zak e6 (v := .str wordsB[p3.toNat]) (Zar (n := p3.toNat) (by lia) (by rw [List.getElem?_map, List.getElem?_eq_getElem h3]; rfl)) ?_
 have hw : Lin 7 wordsB[p3.toNat] := by
  obtain ⟨x1, x2, x3⟩ := w2 _ (List.getElem_mem h3)
  exact ⟨asc_mem.mpr x1, x2, x3⟩
 generalize wordsB[p3.toNat] = wd at hw
 refine ZcO ?_
 try dsimp +zetaDelta only
 have I0 : BI t pk pl ps p3' a kk wd lines ws H L F M p0 4 [some (.str t), some (.ref pk), some (.ref pl), some (.int a), some (.ref ps), some (.int kk), some (.ref p3'), some (.str wd), none, none, none, none] H6 := ⟨pl, lines, none, none, none, none, rfl, s16 _ _ e1, LS.up (by lia) (by lia) (by lia), fun _ => ⟨rfl, rfl⟩, s1.trans s16, s26 _ _ e2⟩
 have nps : ps ≠ pl := fun z => by rw [z, e1] at n2; cases n2
 have go : ∀ {σ' : St} {H' : Hp} (m : Int) {n : Int}, BI t pk pl ps p3' a kk wd lines ws H L F M p0 n σ' H' -> n < m -> ¬ p0 = m -> BI t pk pl ps p3' a kk wd lines ws H L F M p0 m σ' H' := fun m n ⟨p, ls, c8, c9, c10, c11, e, g1, g2, g3, g4, g5⟩ h1 h2 => ⟨p, ls, c8, c9, c10, c11, e, g1, g2, fun z => g3 (by lia), g4, g5⟩
 clear n4 e4 n5 e5 n6 n3 s3 s4 s5 s6
 change tSeq _ _ _ [some (.str t), some (.ref pk), some (.ref pl), some (.int a), some (.ref ps), some (.int kk), some (.ref p3'), some (.str wd), none, none, none, none] H6
 revert I0
 generalize [some (V.str t), some (.ref pk), some (.ref pl), some (.int a), some (.ref ps), some (.int kk), some (.ref p3'), some (.str wd), none, none, none, none] = σ4
 generalize H6 = H6'
 intro I4
 refine ZcM (BI t pk pl ps p3' a kk wd lines ws H L F M p0 5) (fun N hN => ?_) fun σ5 H5 I5 => ?_
 ·obtain ⟨p, ls, c8, c9, c10, c11, rfl, g1, g2, g3, g4, g5⟩ := I4
  refine ZeB rfl (g4 _ _ hpk) (fun e => ?_) fun e => hN _ _ (go 5 ⟨p, ls, c8, c9, c10, c11, rfl, g1, g2, g3, g4, g5⟩ (by decide) e)
  obtain ⟨rfl, rfl⟩ := g3 (by lia)
  refine ZgI g1 (by lia) rfl (show (a : Int) + 1 = ((a + 1 : Nat) : Int) by lia) (fun h => ⟨_, rfl, h⟩) (fun h => ⟨_, rfl, h⟩) (fun h => ⟨_, rfl, rd_c (ZfC h)⟩) fun q H7 s7 e7 => ?_
  exact hN _ _ ⟨q, _, c8, c9, c10, c11, rfl, e7, g2.cut (Nat.le_succ a), fun z => absurd z (by lia), g4.trans s7, s7 _ _ g5⟩
 refine ZcM (BI t pk pl ps p3' a kk wd lines ws H L F M p0 6) (fun N hN => ?_) fun σ6 H6 I6 => ?_
 ·obtain ⟨p, ls, c8, c9, c10, c11, rfl, g1, g2, g3, g4, g5⟩ := I5
  refine ZeB rfl (g4 _ _ hpk) (fun e => ?_) fun e => hN _ _ (go 6 ⟨p, ls, c8, c9, c10, c11, rfl, g1, g2, g3, g4, g5⟩ (by decide) e)
  obtain ⟨rfl, rfl⟩ := g3 (by lia)
  refine Zgb (ZgI g1 (by lia) rfl (show (a : Int) + 1 = ((a + 1 : Nat) : Int) by lia) (fun h => ⟨_, rfl, h⟩) (fun h => ⟨_, rfl, h⟩) (fun h => ⟨_, rfl, rd_c (ZfC h)⟩) fun q H7 s7 e7 => ?_)
  refine ZcO (Zgb ?_)
  walk_at "rd"
  refine Zak ((g4.trans s7) _ _ hpk) (v := .int p2) (Zar (n := 2) rfl rfl) ?_
  walk_at "rd"
  refine Zbk (SqL.of (s7 _ _ g1)) ?_
  rw [List.length_map]
  refine rd_I (by lia) ?_
  obtain ⟨o, eo, ho⟩ := Zhs p2 hpos
  rw [eo]
  refine ZcO ?_
  try dsimp +zetaDelta only
  have hc := LS.cut (show a <= a + 1 by lia)
  have hcl := hc.cnt
  refine ZeD (xs := [ls[a]]) e7 (by simp only [List.length_cons, List.length_nil]; lia) rfl rfl (fun h => ⟨_, rfl, h⟩) (fun h => ⟨_, rfl, h⟩) (fun h => ⟨_, rfl, h⟩) (fun s hq => Zfx (z := ls[a]) (fun h => ⟨_, rfl, ⟨_, rfl, Zak ((s7.trans s) _ _ g1) (v := .str ls[a]) (Zar (n := a) rfl egl) h⟩⟩) hq) fun q8 H8 s8 e8 => ?_
  exact hN _ _ ⟨q8, _, some (.ref q), some (.int o), c10, c11, rfl, e8, ((LS.up (M' := M + 900) (Nat.le_refl _) (Nat.le_refl _) (by lia)).cut (Nat.le_succ a)).ins (Nat.le_refl o) (LSt.one (hln.up (by lia)) hll) |>.up (by lia) (by lia) (Nat.le_refl _), fun z => absurd z (by lia), (g4.trans s7).trans s8, s8 _ _ (s7 _ _ g5)⟩
 refine ZcM (BI t pk pl ps p3' a kk wd lines ws H L F M p0 7) (fun N hN => ?_) fun σ7 H7 I7 => ?_
 ·obtain ⟨p, ls, c8, c9, c10, c11, rfl, g1, g2, g3, g4, g5⟩ := I6
  refine ZeB rfl (g4 _ _ hpk) (fun e => ?_) fun e => hN _ _ (go 7 ⟨p, ls, c8, c9, c10, c11, rfl, g1, g2, g3, g4, g5⟩ (by decide) e)
  obtain ⟨rfl, rfl⟩ := g3 (by lia)
  refine ZeD (xs := [ls[a]]) g1 (by simp only [List.length_cons, List.length_nil]; lia) rfl rfl (fun h => ⟨_, rfl, h⟩) (fun h => ⟨_, rfl, h⟩) (fun h => ⟨_, rfl, h⟩) (fun s hq => Zfx (z := ls[a]) (fun h => ⟨_, rfl, ⟨_, rfl, Zak (s _ _ g1) (v := .str ls[a]) (Zar (n := a) rfl egl) h⟩⟩) hq) fun q8 H8 s8 e8 => ?_
  exact hN _ _ ⟨q8, _, c8, c9, c10, c11, rfl, e8, ((LS.up (M' := M + 900) (Nat.le_refl _) (Nat.le_refl _) (by lia)).ins (Nat.le_refl a) (LSt.one (hln.up (by lia)) hll)).up (by lia) (by lia) (Nat.le_refl _), fun z => absurd z (by lia), g4.trans s8, s8 _ _ g5⟩
 refine ZcM (BI t pk pl ps p3' a kk wd lines ws H L F M p0 8) (fun N hN => ?_) fun σ8 H8 I8 => ?_
 ·obtain ⟨p, ls, c8, c9, c10, c11, rfl, g1, g2, g3, g4, g5⟩ := I7
  refine ZeB rfl (g4 _ _ hpk) (fun e => ?_) fun e => hN _ _ (go 8 ⟨p, ls, c8, c9, c10, c11, rfl, g1, g2, g3, g4, g5⟩ (by decide) e)
  obtain ⟨rfl, rfl⟩ := g3 (by lia)
  have W8 : LSt (M + 9) (M + 2) (M + 7) (ws.take kk ++ [wd] ++ ws.drop kk) := ((W.up (M' := M + 7) (Nat.le_refl _) (Nat.le_refl _) (by lia)).ins (Nat.le_refl kk) (LSt.one (hw.up (N := M + 7) (by lia)) hw.2.1)).up (by lia) (by lia) (Nat.le_refl _)
  have z8 := W8.sz
  have l8 := LSt.line (N := M + 8) W8
  refine Zfy (ls := ws.take kk ++ [wd] ++ ws.drop kk) (fun h => ZeD (xs := [wd]) g5 (by simp only [List.length_cons, List.length_nil]; lia) rfl rfl (fun h => ⟨_, rfl, h⟩) (fun h => ⟨_, rfl, h⟩) (fun h => ⟨_, rfl, h⟩) (fun s hq => Zfx (z := wd) (fun h => ⟨_, rfl, h⟩) hq) h) (by lia) fun H8 s8 => ?_
  generalize Str.join ⟨#[32]⟩ (ws.take kk ++ [wd] ++ ws.drop kk) = nl at l8
  refine ⟨_, rfl, ⟨_, rfl, ZcL (k := a) (s8 _ _ g1) (by rw [List.length_map]; exact Zhx rfl ha) ?_⟩⟩
  exact hN _ _ ⟨p, ls.set a nl, c8, c9, c10, c11, rfl, by rw [Zae, List.map_set], ((LS.up (M' := M + 900) (Nat.le_refl _) (Nat.le_refl _) (by lia)).set (m := M + 8) (l8.up (by lia)) l8.2.1).up (by lia) (by lia) (Nat.le_refl _), fun z => absurd z (by lia), (g4.trans s8).wrF n1, by rw [Zaw nps]; exact s8 _ _ g5⟩
 refine ZcM (BI t pk pl ps p3' a kk wd lines ws H L F M p0 9) (fun N hN => ?_) fun σ9 H9 I9 => ?_
 ·obtain ⟨p, ls, c8, c9, c10, c11, rfl, g1, g2, g3, g4, g5⟩ := I8
  refine ZeB rfl (g4 _ _ hpk) (fun e => ?_) fun e => hN _ _ (go 9 ⟨p, ls, c8, c9, c10, c11, rfl, g1, g2, g3, g4, g5⟩ (by decide) e)
  obtain ⟨rfl, rfl⟩ := g3 (by lia)
  have W8 : LSt (M + 9) (M + 2) (M + 7) (ws.take kk ++ ws.drop (kk + 1)) := ((W.up (M' := M + 7) (Nat.le_refl _) (Nat.le_refl _) (by lia)).cut (Nat.le_succ kk)).up (by lia) (by lia) (Nat.le_refl _)
  have z8 := W8.sz
  have l8 := LSt.line (N := M + 8) W8
  refine Zfy (ls := ws.take kk ++ ws.drop (kk + 1)) (fun h => ZgI g5 (by lia) rfl (show (kk : Int) + 1 = ((kk + 1 : Nat) : Int) by lia) (fun h => ⟨_, rfl, h⟩) (fun h => ⟨_, rfl, h⟩) (fun h => ⟨_, rfl, rd_c (ZfC h)⟩) h) (by lia) fun H8 s8 => ?_
  generalize Str.join ⟨#[32]⟩ (ws.take kk ++ ws.drop (kk + 1)) = nl at l8
  refine ⟨_, rfl, ⟨_, rfl, ZcL (k := a) (s8 _ _ g1) (by rw [List.length_map]; exact Zhx rfl ha) ?_⟩⟩
  exact hN _ _ ⟨p, ls.set a nl, c8, c9, c10, c11, rfl, by rw [Zae, List.map_set], ((LS.up (M' := M + 900) (Nat.le_refl _) (Nat.le_refl _) (by lia)).set (m := M + 8) (l8.up (by lia)) l8.2.1).up (by lia) (by lia) (Nat.le_refl _), fun z => absurd z (by lia), (g4.trans s8).wrF n1, by rw [Zaw nps]; exact s8 _ _ g5⟩
 refine ZcM (BI t pk pl ps p3' a kk wd lines ws H L F M p0 10) (fun N hN => ?_) fun σ10 H10 I10 => ?_
 ·obtain ⟨p, ls, c8, c9, c10, c11, rfl, g1, g2, g3, g4, g5⟩ := I9
  refine ZeB rfl (g4 _ _ hpk) (fun e => ?_) fun e => hN _ _ (go 10 ⟨p, ls, c8, c9, c10, c11, rfl, g1, g2, g3, g4, g5⟩ (by decide) e)
  obtain ⟨rfl, rfl⟩ := g3 (by lia)
  have W8 : LSt (M + 9) (M + 2) (M + 7) (ws.take kk ++ [wd] ++ ws.drop (kk + 1)) := ((W.up (M' := M + 7) (Nat.le_refl _) (Nat.le_refl _) (by lia)).ins (Nat.le_succ kk) (LSt.one (hw.up (N := M + 7) (by lia)) hw.2.1)).up (by lia) (by lia) (Nat.le_refl _)
  have z8 := W8.sz
  have l8 := LSt.line (N := M + 8) W8
  refine Zfy (ls := ws.take kk ++ [wd] ++ ws.drop (kk + 1)) (fun h => ZeD (xs := [wd]) g5 (by simp only [List.length_cons, List.length_nil]; lia) rfl (show (kk : Int) + 1 = ((kk + 1 : Nat) : Int) by lia) (fun h => ⟨_, rfl, h⟩) (fun h => ⟨_, rfl, h⟩) (fun h => ⟨_, rfl, rd_c (ZfC h)⟩) (fun s hq => Zfx (z := wd) (fun h => ⟨_, rfl, h⟩) hq) h) (by lia) fun H8 s8 => ?_
  generalize Str.join ⟨#[32]⟩ (ws.take kk ++ [wd] ++ ws.drop (kk + 1)) = nl at l8
  refine ⟨_, rfl, ⟨_, rfl, ZcL (k := a) (s8 _ _ g1) (by rw [List.length_map]; exact Zhx rfl ha) ?_⟩⟩
  exact hN _ _ ⟨p, ls.set a nl, c8, c9, c10, c11, rfl, by rw [Zae, List.map_set], ((LS.up (M' := M + 900) (Nat.le_refl _) (Nat.le_refl _) (by lia)).set (m := M + 8) (l8.up (by lia)) l8.2.1).up (by lia) (by lia) (Nat.le_refl _), fun z => absurd z (by lia), (g4.trans s8).wrF n1, by rw [Zaw nps]; exact s8 _ _ g5⟩
 refine ZcM (BI t pk pl ps p3' a kk wd lines ws H L F M p0 13) (fun N hN => ?_) fun σ11 H11 I11 => ?_
 ·obtain ⟨p, ls, c8, c9, c10, c11, rfl, g1, g2, g3, g4, g5⟩ := I10
  refine ZeB rfl (g4 _ _ hpk) (fun e => ?_) fun e => hN _ _ (go 13 ⟨p, ls, c8, c9, c10, c11, rfl, g1, g2, g3, g4, g5⟩ (by decide) e)
  obtain ⟨rfl, rfl⟩ := g3 (by lia)
  walk_at "rd"
  have pk10 := g4 _ _ hpk
  refine Zak pk10 (v := .int p2) (Zar (n := 2) rfl rfl) ?_
  refine rd_I (ZeU (by lia) (by lia)) ?_
  walk_at "rd"
  refine Zak pk10 (v := .int p3) (Zar (n := 3) rfl rfl) ?_
  walk_at "rd"
  refine rd_I (by decide) ?_
  obtain ⟨m, em, hm⟩ : ∃ m : Nat, 2 * p2 + p3 % 2 = m /\ m <= 127 := ⟨(2 * p2 + p3 % 2).toNat, by lia, by lia⟩
  repeat (fail_if_success rw [em]); walk_at "rd1"
  rw [em]
  walk_at "rd"
  walk_at "mk"; intro q1 n1'
  have t1 := Same.new (o := .lst [V.str "take 0"]) n1'
  have u1 : upd H10 q1 (.lst [V.str "take 0"]) q1 = some (.lst ((["take 0"] : List Str).map V.str)) := Zae
  generalize upd H10 q1 (.lst [V.str "take 0"]) = G1 at t1 u1
  walk_at "rd"
  refine ZiG u1 rfl (by lia) fun m1 G2 t2 u2 => ?_
  walk_at "rd"
  walk_at "mk"; intro q3 n3
  have t3 := Same.new (o := .lst [V.str "def 0 1"]) n3
  have u3 : upd G2 q3 (.lst [V.str "def 0 1"]) q3 = some (.lst ((["def 0 1"] : List Str).map V.str)) := Zae
  generalize upd G2 q3 (.lst [V.str "def 0 1"]) = G3 at t3 u3
  walk_at "rd"
  refine ZiG u3 rfl (by lia) fun m2 G4 t4 u4 => ?_
  walk_at "rd"
  refine rd_I (ZeU (by decide) (by lia)) ?_
  refine Zez (by lia) (by lia) (by decide) fun hl => ?_
  have hl0 : (Str.ofString " 0").length = 2 := by decide
  have hc0 : Lin 8 (Str.ofString "call 0 0") := ⟨asc_mem.mpr (by decide), by decide, by decide⟩
  have hr0 : Lin 762 (repS (Str.ofString " 0") (3 * (m : Int))) := ⟨Zg3 (asc_mem.mpr (by decide)), (by rw [hl0] at hl; lia), fun z => absurd ((ZiC _ _).1 _ z) (by decide)⟩
  have hcr := ZgM hc0 hr0
  refine Za9 (Za8 (by have := hcr.2.1; rw [ZaU] at this; lia)) ?_
  generalize Str.ofString "call 0 0" ++ repS (Str.ofString " 0") (3 * (m : Int)) = cl at hcr
  walk_at "rd"
  walk_at "mk"; intro m3 n5
  have t5 := Same.new (o := .lst [V.str cl]) n5
  have u5 : upd G4 m3 (.lst [V.str cl]) m3 = some (.lst (([cl] : List Str).map V.str)) := Zae
  generalize upd G4 m3 (.lst [V.str cl]) = G5 at t5 u5
  walk_at "rd"
  walk_at "mk"; intro q6 n6
  have t6 := Same.new (o := .lst [V.ref m1, .ref m2, .ref m3]) n6
  have u6 : upd G5 q6 (.lst [V.ref m1, .ref m2, .ref m3]) q6 = some (.lst [V.ref m1, .ref m2, .ref m3]) := Zae
  generalize upd G5 q6 (.lst [V.ref m1, .ref m2, .ref m3]) = G6 at t6 u6
  have t46 := t5.trans t6
  have t06 := (((t1.trans t2).trans t3).trans t4).trans t46
  have any : ∀ j : Nat, j < 3 -> ∃ mm xs, ([V.ref m1, .ref m2, .ref m3] : List V)[j]? = some (.ref mm) /\ G6 mm = some (.lst (xs.map V.str)) /\ LSt 1100 127 (M + 900) xs := fun j hj => by
   have w1 : Lin (M + 900) (Str.ofString "take 0") := ⟨asc_mem.mpr (by decide), Nat.le_trans (show (Str.ofString "take 0").length <= 900 by decide) (by lia), by decide⟩
   have w2 : Lin (M + 900) (Str.ofString "def 0 1") := ⟨asc_mem.mpr (by decide), Nat.le_trans (show (Str.ofString "def 0 1").length <= 900 by decide) (by lia), by decide⟩
   rcases j with _ | _ | _ | j
   ·exact ⟨m1, _, rfl, ((t3.trans t4).trans t46) _ _ u2, (LSt.rep (n := m) w1 (m := 7) (by decide)).up (by lia) hm (Nat.le_refl _)⟩
   ·exact ⟨m2, _, rfl, t46 _ _ u4, (LSt.rep (n := m) w2 (m := 7) (by decide)).up (by lia) hm (Nat.le_refl _)⟩
   ·exact ⟨m3, _, rfl, t6 _ _ u5, (LSt.one (hcr.up (by lia)) (Nat.le_refl _)).up (by have := hcr.2.1; lia) (by decide) (Nat.le_refl _)⟩
   ·lia
  obtain ⟨mm, xs, x1, x2, x3⟩ := any (p3 / 2 % 3).toNat (by lia)
  have xc := x3.cnt
  refine ZcO ?_
  try dsimp +zetaDelta only
  refine ZeD (xs := xs) (t06 _ _ g1) (by lia) (show (a : Int) + 1 = ((a + 1 : Nat) : Int) by lia) (show (a : Int) + 1 = ((a + 1 : Nat) : Int) by lia) (fun h => ⟨_, rfl, h⟩) (fun h => ⟨_, rfl, rd_c (ZfC h)⟩) (fun h => ⟨_, rfl, rd_c (ZfC h)⟩) (fun s hq => ?_) fun q8 H8 s8 e8 => ?_
  ·refine ⟨_, rfl, ?_⟩
   walk_at "rd"
   refine Zak ((t06.trans s) _ _ pk10) (v := .int p3) (Zar (n := 3) rfl rfl) ?_
   walk_at "rd"
   refine rd_I (Zdi (by decide) (by decide)) ?_
   walk_at "rd"
   refine rd_I (by decide) ?_
   refine Zak (s _ _ u6) (v := .ref mm) (Zar (n := (p3 / 2 % 3).toNat) (by lia) x1) ?_
   exact hq _ _ (Same.refl _) (s _ _ x2)
  exact hN _ _ ⟨q8, _, c8, c9, some (.int m), some (.ref q6), rfl, e8, ((LS.up (M' := M + 900) (Nat.le_refl _) (Nat.le_refl _) (by lia)).ins (Nat.le_refl (a + 1)) x3).up (by lia) (by lia) (Nat.le_refl _), fun z => absurd z (by lia), (g4.trans t06).trans s8, s8 _ _ (t06 _ _ g5)⟩
 obtain ⟨p, ls, c8, c9, c10, c11, rfl, g1, g2, g3, g4, g5⟩ := I11
 have gz := g2.sz
 have pk11 := g4 _ _ hpk
 walk_at "rd"
 refine Zak pk11 (v := .int p0) (Zar (n := 0) rfl rfl) ?_
 walk_at "rd"
 refine Zez (by split <;> decide) (by split <;> decide) (by decide) fun _ => ?_
 refine ⟨rfl, ?_⟩
 walk_at "rd"
 refine ZcN (zs := ls) (SqL.of g1) (by decide) (by lia) ?_
 rw [show Str.ofString "\n" = (⟨#[10]⟩ : Str) from by decide]
 have f1 := Zhi (y := ⟨#[10]⟩) rfl (decide (p0 = 11))
 have T1 := LSt.tb (N := L + M + 1899) (F := F + 127) g2
 generalize Str.join ⟨#[10]⟩ ls = tx at T1
 have tl1 := T1.len
 have r1 : ∀ {y : Str}, y = Str.empty \/ y = ⟨#[10]⟩ -> y.length <= 1 := fun h => by rcases h with rfl | rfl <;> decide
 have r11 := r1 f1
 refine Za9 (Za8 (by lia)) ?_
 walk_at "rd"
 refine Zak pk11 (v := .int p0) (Zar (n := 0) rfl rfl) ?_
 walk_at "rd"
 refine Zez (by split <;> decide) (by split <;> decide) (by decide) fun _ => ?_
 have f2 := Zhi (y := ⟨#[10]⟩) rfl (decide (p0 = 12))
 have r12 := r1 f2
 refine Za9 (Za8 (by rw [ZaU]; lia)) ?_
 exact k _ _ (TB.up (T1.feeds f1 f2) (by unfold upL; lia) (by lia) (by lia)) g4
noncomputable def abc : Str := "abcdefghijklmnopqrstuvwxyz"
theorem abc_ok : abc.length = 26 /\ abc.cps.toList.length = 26 /\ ∀ c ∈ abc.cps.toList, 96 < c /\ c < 128 := by decide +kernel
theorem ZkM {n : Nat} {x : Str} {c : Nat} (h : Lin n x) (hc : 96 < c /\ c < 128) : Lin (n + 1) (x ++ (⟨#[c]⟩ : Str)) := by
 have e : cs (⟨#[c]⟩ : Str) = [c] := rfl
 refine ⟨Zcq h.1 (asc_mem.mpr fun d hd => ?_), ?_, ?_⟩
 ·rw [e, List.mem_singleton] at hd
  lia
 ·rw [ZaU]
  exact Nat.add_le_add_right h.2.1 1
 ·rw [Zbc, e]
  intro z
  rcases List.mem_append.mp z with z | z
  ·exact h.2.2 z
  ·have := List.mem_singleton.mp z
   lia
theorem Zmz {n : Int} (h : ZbC n) : Lin 62 (Str.ofString " " ++ numS n) := by
 refine ⟨Zcq (asc_mem.mpr (by decide)) (ZmU n), ?_, ?_⟩
 ·have := ZcT h
  rw [ZaU]
  have : (Str.ofString " ").length = 1 := by decide
  lia
 ·rw [Zbc]
  intro z
  rcases List.mem_append.mp z with z | z
  ·exact absurd z (by decide)
  ·have := Zc5 n 10 z
   lia
theorem Zjg {m : Nat} : ∀ {ls : List Str}, (∀ p ∈ ls, Lin m p) -> Lin (m * ls.length) (Str.join Str.empty ls)
  | [], _ => ⟨asc_mem.mpr fun c hc => (by cases hc), Nat.zero_le _, by exact List.not_mem_nil⟩
  | [x], h => by
    rw [show m * [x].length = m from Nat.mul_one m]
    exact h x List.mem_cons_self
  | x :: y :: r, h => by
    have h2 := Zjg (ls := y :: r) fun p hp => h p (List.mem_cons_of_mem _ hp)
    have h3 := ZgM (h x List.mem_cons_self) h2
    have e : cs (Str.join Str.empty (x :: y :: r)) = cs (x ++ Str.join Str.empty (y :: r)) := by
      show cs (x ++ Str.empty ++ Str.join Str.empty (y :: r)) = _
      rw [Zbc, Zbc, Zbc, show cs Str.empty = [] from rfl, List.append_nil]
    have hl := congrArg List.length e
    rw [ZaO, ZaO] at hl
    refine ⟨asc_mem.mpr fun c hc => asc_mem.mp h3.1 c (by rw [<- e]; exact hc), ?_, by rw [e]; exact h3.2.2⟩
    rw [hl, show m * (x :: y :: r).length = m * (y :: r).length + m from Nat.mul_succ _ _]
    have := h3.2.1
    lia
theorem sc__law_drawn_word : FnScope ["text", "pick", "bag", "lines", "at", "word", "k", "numbers"] ["text", "pick", "bag"] (Zag ZaQ) := ⟨rfl, rfl, rfl, by decide +kernel, rfl, by decide +kernel, by decide +kernel⟩
theorem ZdZ (B : Blt mg) (T__law_drawn_word : TopFn K mg "_law_drawn_word" ZaQ ["text", "pick", "bag"]) (Zah : Callee P w K mg base "_law_draw" 1 ["bag", "many"] Zcb) (ZaF : Callee P w K mg base "_law_number" 2 ["bag"] ZcD) : Callee P w K mg base "_law_drawn_word" 3 ["text", "pick", "bag"] Zdw := by
 refine T__law_drawn_word.ok3 sc__law_drawn_word fun f cdv A outer s H v1 v2 v3 Q E hr h => ?_
 have nd := sc__law_drawn_word.nd
 obtain ⟨t, L, F, M, pk, p0, p1', p2, p3, b, l, rfl, tb, ok, rfl, hpk, npk, rfl, Bg, _, _, k⟩ := h
 have hL := ok.l
 have hF := ok.f
 have hM := ok.m
 have tl := tb.len
 refine' Zbd [some (.str t), some (.ref pk), some (.ref b), none, none, none, none, none] rfl ?hb ?hg
 case' hb => refine' Zac ?bab ?bac
 case' bab => refine' Zbx (i := 3) ?bad ?bae ?baf ?bag
 case bad => exact nd
 case bae => exact rfl
 case baf => exact (Or.inl rfl)
 case bag => exact (k_bm (K := K) rfl PySem.F.plainAttrs_str PySem.F.slot_str_split PySem.F.type_str_split Zck (pv 0) (Zai Zan Zab))
 case' bac => refine' Zac ?bah ?bai
 case' bah => refine' Za0 (i := 4) ?baj ?bak ?bal ?bam
 case baj => exact nd
 case bak => exact rfl
 case bal => exact (Or.inl rfl)
 case' bam => refine' Zam ?ban ?bao ?bap
 case ban => exact ZbM
 case bao => exact (Zax (k_ix (K := K) rfl) (pv 1) Zad (fun _ _ => rfl))
 case bap => exact (Zap (Zb9 (K := K) rfl) (by rfl) B.b_len Zbw (Zaa (pv 3) Zab))
 case' bai => refine' Zac ?baq ?bar
 case baq => exact (Zcw (i := 5) nd rfl (Or.inl rfl) Zan)
 case' bar => refine' Zac ?bas ?bat
 case' bas => refine' Zb8 ?bau ?bav ?baw ?bax ?bay
 case bau => exact PassesOwn.never
 case bav => exact rfl
 case' baw => refine' Zbs ?baz ?bba ?bbb
 case baz => exact rfl
 case bba => exact B.b_range
 case bbb => exact (ZaW (Zam Za7 Zad (ZaG Zah (hr.mono (by first | decide | lia)) (by rfl) (Zaa (pv 2) (Zai Zad Zab)))) Zab)
 case bax => exact (ZaE (i := 6) nd rfl (Or.inl rfl))
 case' bay => refine' Zaf ?bbc
 case' bbc => refine' Za0 (i := 5) ?bbd ?bbe ?bbf ?bbg
 case bbd => exact nd
 case bbe => exact rfl
 case bbf => exact (Or.inl rfl)
 case' bbg => refine' Zam ?bbh ?bbi ?bbj
 case bbh => exact Zbj
 case bbi => exact (pv 5)
 case bbj => exact (Zax Zfg Zan (ZaG Zah (hr.mono (by first | decide | lia)) (by rfl) (Zaa (pv 2) (Zai Zad Zab))) (fun _ _ => rfl))
 case' bat => refine' Zac ?bbk ?bbl
 case' bbk => refine' ZaL ?bbm ?bbn ?bbo
 case bbm => exact (Zal Zba (Zam ZbM (Zax (k_ix (K := K) rfl) (pv 1) Zad (fun _ _ => rfl)) Zad) Zad (Zao _))
 case' bbn => refine' Zaf ?bbp
 case' bbp => refine' Zc4 ?bbq ?bbr
 case' bbq => refine' k_bm (K := K) ?bbs ?bbt ?bbu ?bbv ?bbw ?bbx ?bby
 case bbs => exact rfl
 case bbt => exact PySem.F.plainAttrs_str
 case bbu => exact PySem.F.slot_str_join
 case bbv => exact PySem.F.type_str_join
 case bbw => exact (Zc7 (K := K) rfl)
 case bbx => exact Zan
 case' bby => refine' ZaW ?bbz ?bca
 case' bbz => refine' Zam ?bcb ?bcc ?bcd
 case bcb => exact ZbU
 case bcc => exact (Za4 (Zaa (pv 5) Zab))
 case' bcd => refine' Zat ?bce ?bcf ?bcg ?bch
 case bce => exact (k_sl (K := K) rfl)
 case' bcf => refine' k_bm (K := K) ?bci ?bcj ?bck ?bcl ?bcm ?bcn ?bco
 case bci => exact rfl
 case bcj => exact PySem.F.plainAttrs_str
 case bck => exact PySem.F.slot_str_split
 case bcl => exact PySem.F.type_str_split
 case bcm => exact Zck
 case bcn => exact (Zax (k_ix (K := K) rfl) (pv 3) (pv 4) (fun _ _ => rfl))
 case bco => exact (Zai Zan Zab)
 case bcg => exact (ZaB Zad)
 case bch => exact ZaC
 case bca => exact Zab
 case bbr => exact (ZdE (pv 3) (pv 4) Zch)
 case' bbo => refine' Zac ?bcp ?bcq
 case' bcp => refine' ZfE (i := 7) (LN := ["k"]) (FN := ["bag"]) (fr := [2]) ?bcr ?bcs ?bct ?bcu ?bcv ?bcw ?bcx ?bcy ?bcz
 case bcr => exact rfl
 case bcs => exact nd
 case bct => exact rfl
 case bcu => exact rfl
 case bcv => exact (ZdO (by rfl))
 case bcw => exact (Zbs rfl B.b_range (ZaW (Zam ZbM (Zax (k_ix (K := K) rfl) (pv 1) Zad (fun _ _ => rfl)) Zad) Zab))
 case' bcx => intro cl C fp pins s H
 case bcx => exact (ZaE (i := 0) (show ((["k"] : List Str) ++ (["bag"] : List Str)).Nodup by decide +kernel) rfl (Or.inl rfl))
 case' bcy => intro cl C fp pins s H
 case bcy => exact Zcc
 case' bcz => intro cl C fp pins s H
 case' bcz => refine' Zam ?bda ?bdb ?bdc
 case bda => exact Zbj
 case bdb => exact Zan
 case' bdc => refine' ZaS ?bdd ?bde ?bdf ?bdg ?bdh
 case bdd => exact Zda
 case bde => exact (by rfl)
 case bdf => exact B.b_str
 case bdg => exact ZeY
 case bdh => exact (ZaJ (ZaG ZaF (hr.mono (by first | decide | lia)) (by rfl) (Zaa (pv 1) Zab)) Zab)
 case' bcq => refine' Zaf ?bdi
 case' bdi => refine' Za0 (i := 3) ?bdj ?bdk ?bdl ?bdm
 case bdj => exact nd
 case bdk => exact rfl
 case bdl => exact (Or.inl rfl)
 case' bdm => refine' Zam ?bdn ?bdo ?bdp
 case bdn => exact ZbU
 case' bdo => refine' Zam ?bdq ?bdr ?bds
 case bdq => exact ZbU
 case bdr => exact (Zat (k_sl (K := K) rfl) (pv 3) ZaC (ZaB (Zam Za7 (pv 4) Zad)))
 case' bds => refine' Za4 ?bdt
 case' bdt => refine' ZaW ?bdu ?bdv
 case' bdu => refine' Zam ?bdw ?bdx ?bdy
 case bdw => exact Zbj
 case bdx => exact (pv 5)
 case bdy => exact (k_bm (K := K) rfl PySem.F.plainAttrs_str PySem.F.slot_str_join PySem.F.type_str_join (Zc7 (K := K) rfl) Zan (Zaa (pv 7) Zab))
 case bdv => exact Zab
 case bdp => exact (Zat (k_sl (K := K) rfl) (pv 3) (ZaB (Zam Za7 (pv 4) Zad)) ZaC)
 case' bbl => refine' Zaf ?bdz
 case bdz => exact (Zas (k_bm (K := K) rfl PySem.F.plainAttrs_str PySem.F.slot_str_join PySem.F.type_str_join (Zc7 (K := K) rfl) Zan (Zaa (pv 3) Zab)))
 walk_at "rd"
 refine ⟨rfl, ?_⟩
 walk_at "rd"
 refine ZdA (c := 10) (by decide) (by lia) fun pl H1 n1 s1 e1 => ?_
 have LS := tb.lst
 have hlne := ZbN t ⟨#[10]⟩
 generalize Txt.split t ⟨#[10]⟩ = lines at LS hlne e1
 have hlc := LS.cnt
 have hpos : 0 < lines.length := List.length_pos_iff.mpr hlne
 have B1 := Bg.mono s1
 have npl := Ne.symm (Bg.ne n1).1
 have pk1 := s1 _ _ hpk
 walk_at "rd"
 refine Zak pk1 (v := .int p1') (Zar (n := 1) rfl rfl) ?_
 walk_at "rd"
 refine Zbk (SqL.of e1) ?_
 rw [List.length_map]
 walk_at "rd"
 refine rd_I (by lia) ?_
 obtain ⟨a, ea, ha⟩ := Zhs p1' hpos
 rw [ea]
 walk_at "rd"
 refine use2 ⟨b, l, 9, rfl, rfl, ⟨by decide, by decide⟩, B1, fun r2 H2 a2 b2 B2 s2 => ?_⟩
 walk_at "rd"
 refine ZcJ (by lia) (by lia) ?_
 refine ZdU (n := (1 + r2).toNat) (fun i σ Hx => Ex2 fun (wd : Str) (c6 : Option V) => An4 (σ = [some (.str t), some (.ref pk), some (.ref b), some (.ref pl), some (.int a), some (.str wd), c6, none]) (Lin i wd) (BagAt Hx b l) (BSame b H1 Hx)) ⟨_, none, rfl, ⟨asc_mem.mpr (by decide), by decide, by decide⟩, B2, s2⟩ ?_ ?_
 ·rintro i σ Hx hi ⟨wd, c6, rfl, hw, Bx, sx⟩ N hN
  walk_at "rd"
  refine use2 ⟨b, l, 26, rfl, rfl, ⟨by decide, by decide⟩, Bx, fun r3 H3 a3 b3 B3 s3 => ?_⟩
  obtain ⟨ab1, ab2, ab3⟩ := abc_ok
  have hj : r3.toNat < abc.cps.toList.length := by lia
  refine ⟨abc, r3, _, rfl, rfl, by rw [ab1]; exact Zc2 (by lia), Zar (n := r3.toNat) (by lia) (List.getElem?_eq_getElem hj), ?_⟩
  have hw2 := ZkM hw (ab3 _ (List.getElem_mem hj))
  refine Za9 (Za8 (by have := hw2.2.1; rw [ZaU] at this; lia)) ?_
  walk_at "rd"
  exact hN _ _ ⟨_, _, rfl, hw2, B3, sx.trans s3⟩
 ·rintro σ Hx ⟨wd, c6, rfl, hw, Bx, sx⟩
  have hw : Lin 9 wd := hw.up (by lia)
  have pkx := sx _ _ npk pk1
  have ex := sx _ _ npl e1
  have sH : BSame b H Hx := (BSame.of s1).trans sx
  try dsimp +zetaDelta only
  refine ZeA (fun σ' H' => Ex4 fun p ls c7 c6 => An5 (σ' = [some (.str t), some (.ref pk), some (.ref b), some (.ref p), some (.int a), some (.str wd), c6, c7]) (LSt (upL L F M + 1) (F + 2) (M + 300) ls) (H' p = some (.lst (ls.map V.str))) (BagAt H' b l) (BSame b H H')) ?_ fun N hN => ?_
  ·rintro σ' H' ⟨p, ls, c7, c6', rfl, L2, e2, B2', s2'⟩
   have := L2.sz
   have hL2 : upL L F M <= 1000000 := by unfold upL; lia
   walk_at "rd"
   refine ⟨rfl, ?_⟩
   walk_at "rd"
   refine ZcN (zs := ls) (SqL.of e2) (by decide) (by lia) ?_
   rw [show (Str.ofString "\n") = (⟨#[10]⟩ : Str) from by decide]
   exact k _ _ (TB.up (LSt.tb (N := upL L F M) (F := F + 1) L2) (Nat.le_refl _) (by lia) (by lia)) B2' s2'
  ·walk_at "rd"
   refine Zak pkx (v := .int p2) (Zar (n := 2) rfl rfl) ?_
   walk_at "rd"
   refine rd_I (by decide) ?_
   walk_at "rd"
   have hln := LS.all _ (List.getElem_mem ha)
   have egl : (lines.map V.str)[a]? = some (V.str lines[a]) := by rw [List.getElem?_map, List.getElem?_eq_getElem ha]; rfl
   have hll := hln.2.1
   refine ZaH (fun _ => ?_) (fun _ => ?_)
   ·walk_at "rd"
    refine ⟨rfl, ?_⟩
    walk_at "rd"
    walk_at "mk"; intro q3 n3
    have s3 := Same.new (o := .lst [V.str wd]) n3
    have e3 : upd Hx q3 (.lst [V.str wd]) q3 = some (.lst ([wd].map V.str)) := Zae
    generalize upd Hx q3 (.lst [V.str wd]) = H3 at s3 e3
    walk_at "rd"
    refine Zak (s3 _ _ ex) (v := .str lines[a]) (Zar (n := a) rfl egl) ?_
    refine ⟨rfl, ?_⟩
    walk_at "rd"
    refine ZdA (c := 32) (by decide) (by lia) fun q4 H4 n4 s4 e4 => ?_
    have W := hln.words
    have hwne := ZbN lines[a] ⟨#[32]⟩
    generalize Txt.split lines[a] ⟨#[32]⟩ = ws at W hwne e4
    have hwc := W.cnt
    walk_at "rd"
    refine Zek (i := 1) e4 rfl fun q5 H5 n5 s5 e5 => ?_
    refine Zdp ((s4.trans s5) _ _ e3) e5 (by rw [List.length_drop]; simp only [List.length_cons, List.length_nil]; lia) fun q6 H6 n6 s6 e6 => ?_
    have W6 : LSt (M + 11) (M + 2) (M + 9) ([wd] ++ ws.drop 1) := by
     have := (W.up (M' := M + 9) (Nat.le_refl _) (Nat.le_refl _) (by lia)).ins (i := 0) (j := 1) (by lia) (LSt.one (hw.up (N := M + 9) (by lia)) hw.2.1)
     exact this
    have h6 := LSt.line (N := M + 10) W6
    have := W6.sz
    walk_at "rd"
    refine ZcN (zs := [wd] ++ ws.drop 1) (SqL.of e6) (by decide) (by lia) ?_
    rw [show (Str.ofString " ") = (⟨#[32]⟩ : Str) from by decide]
    generalize Str.join ⟨#[32]⟩ ([wd] ++ ws.drop 1) = nl at h6
    have s36 := ((s3.trans s4).trans s5).trans s6
    walk_at "rd"
    refine ZcL (k := a) (s36 _ _ ex) (by rw [List.length_map]; exact Zhx rfl ha) ?_
    walk_at "rd"
    refine hN _ _ ⟨pl, lines.set a nl, none, c6, rfl, ?_, by rw [Zae, List.map_set], (Bx.mono s36).wr (Ne.symm npl) (Bg.ne n1).2, (sH.to s36).wrNew n1⟩
    exact ((LS.up (M' := M + 300) (Nat.le_refl _) (Nat.le_refl _) (by lia)).set (m := M + 10) (h6.up (by lia)) h6.2.1).up (by unfold upL; lia) (by lia) (Nat.le_refl _)
   ·walk_at "rd"
    refine Zak pkx (v := .int p3) (Zar (n := 3) rfl rfl) ?_
    walk_at "rd"
    refine rd_I (by decide) ?_
    walk_at "rd"
    have h0 := Int.emod_nonneg p3 (b := 5) (by decide)
    have h5 := Int.emod_lt_of_pos p3 (b := 5) (by decide)
    refine ZcJ (by lia) (by lia) ?_
    refine Zdh (n := (p3 % 5).toNat) (by rw [PySem.sizeLine_eq]; lia) (fun i ys σ Hy => Ex2 fun (x1 : Option V) (zs : List Str) => An6 (σ = [x1, some (.ref b)]) (ys = zs.map V.str) (zs.length = i) (∀ z ∈ zs, Lin 62 z) (BagAt Hy b l) (BSame b Hx Hy)) ⟨none, [], rfl, rfl, rfl, (fun z hz => by cases hz), Bx, BSame.refl _ _⟩ ?_ ?_
    ·rintro i ys σ Hy hi hle hlt ⟨x1, zs, rfl, rfl, hzl, hza, By, sy⟩
     walk_at "rd"
     refine use1 ⟨b, l, rfl, By, fun n H5 hn B5 s5 => ?_⟩
     walk_at "rd"
     refine Zey hn ?_
     have hl := Zmz hn
     refine Za9 (Za8 (by have := hl.2.1; rw [ZaU] at this; lia)) ?_
     refine ⟨hlt, by simpa using hle, _, zs ++ [_], rfl, by rw [List.map_append]; rfl, by rw [List.length_append, hzl]; rfl, fun z hz => ?_, B5, sy.trans s5⟩
     rcases List.mem_append.mp hz with hz | hz
     ·exact hza z hz
     ·rw [List.mem_singleton.mp hz]; exact hl
    ·rintro ys σ Hy _ ⟨x1, zs, rfl, rfl, hzl, hza, By, sy⟩ q6 n6
     have s6 := Same.new (o := .lst (zs.map V.str)) n6
     have e6 : upd Hy q6 (.lst (zs.map V.str)) q6 = some (.lst (zs.map V.str)) := Zae
     generalize upd Hy q6 (.lst (zs.map V.str)) = H6 at s6 e6
     have e16 := s6 _ _ (sy _ _ npl ex)
     walk_at "rd"
     refine ZiD (i := a + 1) e16 rfl fun q7 H7 n7 s7 e7 => ?_
     walk_at "rd"
     refine ⟨rfl, ?_⟩
     walk_at "rd"
     have hzs := ZgG fun z hz => (hza z hz).2.1
     refine ZcN (zs := zs) (SqL.of (s7 _ _ e6)) (by decide) (by lia) ?_
     rw [show (Str.ofString "") = Str.empty from by decide]
     have hj := Zjg hza
     generalize Str.join Str.empty zs = tl2 at hj
     have hnl := (ZgM hw hj).up (N := 300) (by lia)
     refine Za9 (Za8 (by have := hnl.2.1; rw [ZaU] at this; lia)) ?_
     generalize wd ++ tl2 = nl at hnl
     walk_at "rd"
     walk_at "mk"; intro q8 n8
     have s8 := Same.new (o := .lst [V.str nl]) n8
     have e8 : upd H7 q8 (.lst [V.str nl]) q8 = some (.lst ([nl].map V.str)) := Zae
     generalize upd H7 q8 (.lst [V.str nl]) = H8 at s8 e8
     refine Zdp (s8 _ _ e7) e8 (by rw [List.length_take]; simp only [List.length_cons, List.length_nil]; lia) fun q9 H9 n9 s9 e9 => ?_
     walk_at "rd"
     refine Zek (i := a + 1) (((s7.trans s8).trans s9) _ _ e16) rfl fun q10 H10 n10 s10 e10 => ?_
     refine Zdp (s10 _ _ e9) e10 (by rw [List.length_append, List.length_take, List.length_drop]; simp only [List.length_cons, List.length_nil]; lia) fun q11 H11 n11 s11 e11 => ?_
     have sA := (((s6.trans s7).trans (s8.trans s9)).trans s10).trans s11
     walk_at "rd"
     refine hN _ _ ⟨q11, _, some (.ref q6), c6, rfl, ?_, e11, By.mono sA, (sH.trans sy).to sA⟩
     exact ((LS.up (M' := M + 300) (Nat.le_refl _) (Nat.le_refl _) (by lia)).ins (Nat.le_refl _) (LSt.one (hnl.up (N := M + 300) (by lia)) hnl.2.1)).up (by unfold upL; lia) (by lia) (Nat.le_refl _)
theorem sc__law_spoilt : FnScope ["text", "pick", "bag"] ["text", "pick", "bag"] (Zag Zbo) := ⟨rfl, rfl, rfl, by decide +kernel, rfl, by decide +kernel, by decide +kernel⟩
theorem ZfV (B : Blt mg) (T__law_spoilt : TopFn K mg "_law_spoilt" Zbo ["text", "pick", "bag"]) (Zcs : Callee P w K mg base "_law_bent_text" 4 ["text", "pick", "bag"] Zd7) (Zce : Callee P w K mg base "_law_drawn_word" 3 ["text", "pick", "bag"] Zdw) (Zcr : Callee P w K mg base "_law_each_line" 4 ["text", "pick", "bag"] Zdw) (Zcf : Callee P w K mg base "_law_bent_lines" 2 ["text", "pick"] Zdy) : Callee P w K mg base "_law_spoilt" 5 ["text", "pick", "bag"] Zdw := by
 refine T__law_spoilt.ok3 sc__law_spoilt fun f cdv A outer s H v1 v2 v3 Q E hr h => ?_
 have nd := sc__law_spoilt.nd
 obtain ⟨t, L, F, M, pk, p0, p1, p2, p3, b, l, rfl, tb, ok, rfl, hpk, npk, rfl, Bg, hp2, hp3, k⟩ := h
 have hL := ok.l
 have hF := ok.f
 have hM := ok.m
 have tl := tb.len
 refine' Zbd [some (.str t), some (.ref pk), some (.ref b)] rfl ?hb ?hg
 case' hb => refine' Zac ?bab ?bac
 case' bab => refine' ZaL ?bad ?bae ?baf
 case bad => exact (Zal ZkD (Zax (k_ix (K := K) rfl) (pv 1) Zad (fun _ _ => rfl)) Zad (Zao _))
 case bae => exact (Zaf (Zas (ZaG Zcs (hr.mono (by first | decide | lia)) (by rfl) (Zaa (pv 0) (Zaa (pv 1) (Zaa (pv 2) Zab))))))
 case baf => exact Zaq
 case' bac => refine' Zac ?bag ?bah
 case' bag => refine' ZaL ?bai ?baj ?bak
 case bai => exact (Zal Zba (Zax (k_ix (K := K) rfl) (pv 1) Zad (fun _ _ => rfl)) Zad (Zao _))
 case' baj => refine' Zaf ?bal
 case bal => exact (Zas (ZaG Zce (hr.mono (by first | decide | lia)) (by rfl) (Zaa (pv 0) (Zaa (pv 1) (Zaa (pv 2) Zab)))))
 case bak => exact Zaq
 case' bah => refine' Zac ?bam ?ban
 case' bam => refine' ZaL ?bao ?bap ?baq
 case bao => exact (Zal Zba (Zax (k_ix (K := K) rfl) (pv 1) Zad (fun _ _ => rfl)) Zad (Zao _))
 case bap => exact (Zaf (Zas (ZaG Zcr (hr.mono (by first | decide | lia)) (by rfl) (Zaa (pv 0) (Zaa (pv 1) (Zaa (pv 2) Zab))))))
 case baq => exact Zaq
 case ban => exact (Zaf (Zas (ZaG Zcf (hr.mono (by first | decide | lia)) (by rfl) (Zaa (pv 0) (Zaa (pv 1) Zab)))))
 walk_at "rd"
 refine Zak hpk (v := .int p0) (Zar (n := 0) rfl rfl) ?_
 walk_at "rd"
 refine ZaH (fun _ => ?_) (fun _ => ?_)
 ·walk_at "rd"
  refine use3 ⟨t, L, pk, p0, p1, p2, _, b, l, rfl, tb.asc, tl, by lia, rfl, hpk, npk, rfl, Bg, fun t' H' ⟨i, j, r, e, hr, ha⟩ hl B' b' => ?_⟩
  exact k _ _ (TB.up (tb.put hr ha e hl) (by unfold upL; lia) (by lia) (by lia)) B' b'
 ·walk_at "rd"
  refine Zak hpk (v := .int p0) (Zar (n := 0) rfl rfl) ?_
  walk_at "rd"
  refine ZaH (fun _ => ?_) (fun _ => ?_)
  ·walk_at "rd"
   exact use3 ⟨t, L, F, M, pk, p0, p1, p2, p3, b, l, rfl, tb, ok, rfl, hpk, npk, rfl, Bg, hp2, hp3, k⟩
  ·walk_at "rd"
   refine Zak hpk (v := .int p0) (Zar (n := 0) rfl rfl) ?_
   walk_at "rd"
   refine ZaH (fun _ => ?_) (fun _ => ?_)
   ·walk_at "rd"
    exact use3 ⟨t, L, F, M, pk, p0, p1, p2, p3, b, l, rfl, tb, ok, rfl, hpk, npk, rfl, Bg, hp2, hp3, k⟩
   ·walk_at "rd"
    exact use2 ⟨t, L, F, M, pk, p0, p1, p2, p3, rfl, tb, ok, rfl, hpk, hp2, hp3, fun t' H' h' s' => k t' H' h' (Bg.mono s') (BSame.of s')⟩
theorem Zjo {c : Nat} (hc : c < 128) : ∀ {ps : List (List Nat)}, (∀ p ∈ ps, ∀ x ∈ p, x < 128) -> ∀ x ∈ jn c ps, x < 128
  | [], _, x, hx => by cases hx
  | [p], h, x, hx => h p List.mem_cons_self x hx
  | a :: b :: r, h, x, hx => by
    rcases List.mem_append.mp (show x ∈ a ++ c :: jn c (b :: r) from hx) with z | z
    · exact h a List.mem_cons_self x z
    · rcases List.mem_cons.mp z with rfl | z
      · exact hc
      · exact Zjo hc (fun p hp => h p (List.mem_cons_of_mem _ hp)) x z
structure PgT (ds : List PDef) : Prop where
 ne : ds ≠ []
 len : ds.length <= 9
 df : ∀ d ∈ ds, DefT d /\ d.2.2.length <= 30
theorem PgT.lines {ds : List PDef} (h : PgT ds) : ((ds.map defL).flatten).length <= 31 * ds.length := by
  have : ∀ (l : List PDef), (∀ d ∈ l, d.2.2.length <= 30) -> ((l.map defL).flatten).length <= 31 * l.length := by
    intro l
    induction l with
    | nil => intro _; exact Nat.le_refl _
    | cons d l ih =>
      intro h
      have h1 := ih fun x hx => h x (List.mem_cons_of_mem _ hx)
      have h2 := h d List.mem_cons_self
      rw [List.map_cons, List.flatten_cons, List.length_append]
      simp only [defL, List.length_cons, List.length_map] at h1 h2 ⊢
      lia
  exact this ds fun d hd => (h.df d hd).2
theorem PgT.few {ds : List PDef} (h : PgT ds) : ((ds.map defL).flatten).length <= 300 := by
 have := h.lines
 have := h.len
 lia
theorem ZjY {w : Str} {ns : List Int} {r : Str × List D} (h : rowP w ns = some r) : ∀ c ∈ cs w, c < 128 := by
  have hk : ∀ q ∈ partsT, ∀ c ∈ cs q.1, c < 128 := by decide +kernel
  unfold rowP at h
  split at h
  · cases h
  · next ks e =>
    have : ∀ (l : List (Str × List Str)), l.lookup w = some ks -> (w, ks) ∈ l := by
      intro l
      induction l with
      | nil => intro h; cases h
      | cons q l ih =>
        intro h
        obtain ⟨a, b⟩ := q
        rw [List.lookup_cons] at h
        split at h
        · next e => cases h; rw [beq_iff_eq.mp e]; exact List.mem_cons_self
        · exact List.mem_cons_of_mem _ (ih h)
    exact hk _ (this _ e)
theorem Ziy {wd : Str} {ns : List Int} (h : ∀ c ∈ cs wd, c < 128) : ∀ c ∈ cs (rowT wd ns), c < 128 := by
 unfold rowT
 rw [Zcy, ZbA]
 refine Zjo (by decide) fun p hp => ?_
 obtain ⟨q, hq, rfl⟩ := List.mem_map.mp hp
 rcases List.mem_cons.mp hq with rfl | hq
 ·exact h
 ·obtain ⟨n, _, rfl⟩ := List.mem_map.mp hq
  intro x hx
  have := Zc5 n x hx
  lia
theorem Zkr {ds : List PDef} (h : ∀ d ∈ ds, DefR d) : Zbl (Zgd ds) := by
 rw [asc_mem, ZcF, Zcp, ZbA]
 refine Zjo (by decide) fun p hp => ?_
 obtain ⟨q, hq, rfl⟩ := List.mem_map.mp hp
 obtain ⟨l, hl, hq⟩ := List.mem_flatten.mp hq
 obtain ⟨d, hd, rfl⟩ := List.mem_map.mp hl
 rcases List.mem_cons.mp hq with rfl | hq
 ·exact Ziy (by decide)
 ·obtain ⟨r, hr, rfl⟩ := List.mem_map.mp hq
  exact Ziy (ZjY ((h d hd).rows r hr).row)
theorem row_PD {r : Str × List D} (h : RowR r) (hn : (L2.Za2 r).length <= 50) : r.2.length <= 100 /\ ∀ p ∈ r.2, Ze5 1 p := by
 constructor
 ·rcases h.shape with ⟨_, a, b, qs, e, _⟩ | ⟨_, ns, e, en⟩
  ·rw [e]; simp
  ·rw [e, List.length_map]; rw [en] at hn; lia
 ·intro p hp
  rcases ZdR h p hp with ⟨n, rfl, _⟩ | ⟨qs, rfl, _, hl⟩
  ·simp [Ze5]
  ·exact ⟨by rw [List.length_map]; lia, fun d hd => by obtain ⟨n, _, rfl⟩ := List.mem_map.mp hd; exact ⟨n, rfl⟩⟩
theorem PgT.D {ds : List PDef} (h : PgT ds) : PgD ds /\ ∀ d ∈ ds, ∀ r ∈ d.2.2, r.2.length < 1000 := by
 have hr : ∀ d ∈ ds, ∀ r ∈ d.2.2, r.2.length <= 100 /\ ∀ p ∈ r.2, Ze5 1 p := fun d hd r hr => row_PD ((h.df d hd).1.r.rows r hr) ((h.df d hd).1.m r hr)
 refine ⟨⟨by have := h.len; lia, fun d hd => by have := (h.df d hd).2; lia, fun d hd r hr' => ⟨by have := (hr d hd r hr').1; lia, (hr d hd r hr').2⟩⟩, fun d hd r hr' => by have := (hr d hd r hr').1; lia⟩
theorem _root_.L2.DefsAt.free {av : List Addr} {H : Hp} : ∀ {ds : List PDef} {vs : List V}, DefsAt av H ds vs -> DefsAt [] H ds vs
 | [], _, h => h
 | _ :: _, _, ⟨v, r, e, ⟨t, q, ys, e1, h1, h2, _, h3⟩, hr⟩ => ⟨v, r, e, ⟨t, q, ys, e1, h1, h2, List.not_mem_nil, h3⟩, L2.DefsAt.free hr⟩
theorem read_D {z : Str} {ds : List PDef} (h : Zc3 z = some ds) (hz : z.length <= 900000) : PgD ds := by
  obtain ⟨_, e2, hR⟩ := Zga h
  have hs := Zb7 z feed
  rw [<- e2] at hs
  have hd : ∀ d ∈ ds, (defL d).length <= ((ds.map defL).flatten).length := fun d hd =>
    (List.sublist_flatten_of_mem (List.mem_map.mpr ⟨d, hd, rfl⟩)).length_le
  have hn : ∀ d ∈ ds, ∀ r ∈ d.2.2, (L2.Za2 r).length <= 900010 := fun d hd r hr => by
    have hm : rowT r.1 (L2.Za2 r) ∈ (ds.map defL).flatten := List.mem_flatten.mpr ⟨defL d, List.mem_map.mpr ⟨d, hd, rfl⟩, List.mem_cons_of_mem _ (List.mem_map.mpr ⟨r, hr, rfl⟩)⟩
    rw [e2, Zcp] at hm
    have h1 := (ZbX hm).2
    have h2 := Zb7 (rowT r.1 (L2.Za2 r)) blank
    rw [Zdz (ZcC ((hR d hd).rows r hr).row).1.1, List.length_cons, List.length_map] at h2
    lia
  refine ⟨?_, fun d hd' => ?_, fun d hd' r hr => ⟨?_, fun p hp => ?_⟩⟩
  · have : ∀ (l : List PDef), l.length <= ((l.map defL).flatten).length := by
      intro l
      induction l with
      | nil => exact Nat.le_refl _
      | cons d l ih =>
        rw [List.map_cons, List.flatten_cons, List.length_append]
        simp only [List.length_cons, defL]
        lia
    have := this ds
    lia
  · have := hd d hd'
    simp only [defL, List.length_cons, List.length_map] at this
    lia
  · have := hn d hd' r hr
    rcases ((hR d hd').rows r hr).shape with ⟨_, a, b, qs, e, _⟩ | ⟨_, ns, e, en⟩
    · rw [e]
      show 3 <= _
      lia
    · rw [e, List.length_map]
      rw [en] at this
      lia
  · have := hn d hd' r hr
    rcases ZdR ((hR d hd').rows r hr) p hp with ⟨n, rfl, _⟩ | ⟨qs, rfl, _, hl⟩
    · simp [Ze5]
    · exact ⟨by rw [List.length_map]; lia, fun d hd => by obtain ⟨n, _, rfl⟩ := List.mem_map.mp hd; exact ⟨n, rfl⟩⟩
theorem ZlC {z : Str} {ds : List PDef} (h : Zc3 z = some ds) (hz : z.length <= 900000) : ∀ d ∈ ds, ∀ r ∈ d.2.2, r.2.length < 1000000 := by
 obtain ⟨_, e2, hR⟩ := Zga h
 intro d hd r hr
 have hm : rowT r.1 (L2.Za2 r) ∈ (ds.map defL).flatten := List.mem_flatten.mpr ⟨defL d, List.mem_map.mpr ⟨d, hd, rfl⟩, List.mem_cons_of_mem _ (List.mem_map.mpr ⟨r, hr, rfl⟩)⟩
 rw [e2, Zcp] at hm
 have h1 := (ZbX hm).2
 have h2 := Zb7 (rowT r.1 (L2.Za2 r)) blank
 rw [Zdz (ZcC ((hR d hd).rows r hr).row).1.1, List.length_cons, List.length_map] at h2
 rcases ((hR d hd).rows r hr).shape with ⟨_, a, b, qs, e, _⟩ | ⟨_, ns, e, en⟩
 ·rw [e]
  show 3 < _
  lia
 ·rw [e, List.length_map]
  have h3 : ns.length = (L2.Za2 r).length := by rw [en]
  lia
theorem PgT.tb {ds : List PDef} (h : PgT ds) (h8 : ds.length <= 8) : TB 800000 300 3200 (Zgd ds) := by
 have ha := Zkr fun d hd => (h.df d hd).1.r
 have hl := h.lines
 rw [ZcF, Zcp] at ha ⊢
 have hp : ∀ p ∈ (ds.map defL).flatten, p.length <= 3200 /\ 10 ∉ cs p := fun p hp => by
  obtain ⟨l, hl, hp⟩ := List.mem_flatten.mp hp
  obtain ⟨d, hd, rfl⟩ := List.mem_map.mp hl
  exact ⟨ZhC (h.df d hd).1 p hp, ZhB (h.df d hd).1.r p hp⟩
 have hs := ZgG fun p hp' => (hp p hp').1
 have hne : (ds.map defL).flatten ≠ [] := fun e => by
  obtain ⟨d, r, e2⟩ := List.exists_cons_of_ne_nil h.ne
  rw [e2] at e
  simp [defL] at e
 refine TB.join hne (by lia) (fun p hp' => ⟨asc_mem.mpr fun c hc => ?_, (hp p hp').1, (hp p hp').2⟩) (by lia)
 obtain ⟨u, w, e⟩ := ZkP (c := 10) (List.mem_map.mpr ⟨p, hp', rfl⟩ : cs p ∈ ((ds.map defL).flatten).map cs)
 refine asc_mem.mp ha c ?_
 rw [ZbA]
 show c ∈ jn 10 _
 rw [e]
 exact List.mem_append_left _ (List.mem_append_right _ hc)
noncomputable def bF : Nat -> Nat
 | 0 => 300
 | n + 1 => 2 * bF n + 130
noncomputable def bM : Nat -> Nat
 | 0 => 3200
 | n + 1 => 2 * bM n + 1000
noncomputable def bL : Nat -> Nat
 | 0 => 800000
 | n + 1 => upL (bL n) (bF n) (bM n)
theorem b_ok : ∀ {i : Nat}, i < 3 -> TBok (bL i) (bF i) (bM i)
 | 0, _ => ⟨by decide, by decide, by decide⟩
 | 1, _ => ⟨by decide, by decide, by decide⟩
 | 2, _ => ⟨by decide, by decide, by decide⟩
 | i + 3, h => by lia
theorem b_end : ∀ {i : Nat}, i <= 3 -> bL i <= 900000
 | 0, _ => by decide
 | 1, _ => by decide
 | 2, _ => by decide
 | 3, _ => by decide
 | i + 4, h => by lia
noncomputable def DueV (t : Str) (H : Hp) (v : V) : Prop := (Zc3 t = none /\ v = .non) \/ ∃ ds q vs, Zc3 t = some ds /\ v = .ref q /\ H q = some (.lst vs) /\ DefsAt [] H ds vs
theorem DueV.mono {t : Str} {H H' : Hp} {v : V} (h : DueV t H v) (s : Same H H') : DueV t H' v := by
 rcases h with h | ⟨ds, q, vs, a, b, c, d⟩
 ·exact .inl h
 ·exact .inr ⟨ds, q, vs, a, b, s _ _ c, d.mono s⟩
theorem Zkb {c : TT} {ta tb : TE} {σ : St} {H : Hp} {Q : VK} (b : Bool) (W : V -> Hp -> Prop) (hc : ∀ R : Bool -> Hp -> Prop, R b H -> c σ H R) (ha : ∀ R : VK, (∀ v H', W v H' -> R v H') -> ta σ H R) (hb : ∀ R : VK, (∀ v H', W v H' -> R v H') -> tb σ H R) (h : ∀ v H', W v H' -> Q v H') : tIf c ta tb σ H Q := by
 refine Zle (hc _ ?_)
 cases b with
 | true => exact iteT (ha _ h)
 | false => exact iteF (hb _ h)
theorem ZlL {a b c t : TS} {D : Ends} {σ : St} {H : Hp} (I : St -> Hp -> Prop) (h : ∀ N : St -> Hp -> Prop, (∀ σ' H', I σ' H' -> N σ' H') -> a { D with nx := fun σ1 H1 => b { D with nx := fun σ2 H2 => c { D with nx := N } σ2 H2 } σ1 H1 } σ H) (hI : ∀ σ' H', I σ' H' -> t D σ' H') : tSeq a (tSeq b (tSeq c t)) D σ H := h _ hI
inductive PkV (H : Hp) (b pp : Addr) (y : V) : Prop
 | mk (pk p0 p1 p2 p3) (_ : y = .ref pk) (_ : pk ≠ b) (_ : pk ≠ pp) (_ : H pk = some (.lst [.int p0, .int p1, .int p2, .int p3])) (_ : 0 <= p2 /\ p2 < 64) (_ : 0 <= p3 /\ p3 < 23) : PkV H b pp y
theorem PkV.bs {H H' : Hp} {b pp : Addr} {y : V} (h : PkV H b pp y) (s : BSame b H H') : PkV H' b pp y := by
 obtain ⟨pk, p0, p1, p2, p3, e, n1, n2, e', r, r'⟩ := h
 exact ⟨pk, p0, p1, p2, p3, e, n1, n2, s _ _ n1 e', r, r'⟩
inductive PgW15 (b l : Addr) (Hx : Hp) (v : V) (H' : Hp) : Prop
 | mk (ds q vs) (_ : v = .ref q) (_ : PgT ds) (_ : ds.length <= 8) (_ : H' q = some (.lst vs)) (_ : DefsAt [] H' ds vs) (_ : BagAt H' b l) (_ : BSame b Hx H') : PgW15 b l Hx v H'
theorem sc_law : FnScope ["script", "bag", "wild", "picks", "k", "program", "text", "good", "pick", "due", "found", "told", "due_too"] ["script"] (Zag Zfu) := ⟨rfl, rfl, rfl, by decide +kernel, rfl, by decide +kernel, by decide +kernel⟩
theorem Zjh {f : Addr} {fd : FuncData} {Zaj ZaA Zav ZaX : Addr} (B : Blt mg) (G : Glb K w mg) (HX : ExH K mg Zaj ZaA Zav ZaX) (T_read_whole : TopFn K mg "read_whole" Zbt ["text", "most"]) (T_read_head : TopFn K mg "read_head" ZbD ["numbers"]) (T_read_call : TopFn K mg "read_call" ZbE ["numbers"]) (T_read_row : TopFn K mg "read_row" ZbO ["word", "numbers"]) (T_read : TopFn K mg "read" Zd8 ["text"]) (T__law_draw : TopFn K mg "_law_draw" ZbK ["bag", "many"]) (T__law_number : TopFn K mg "_law_number" Zbp ["bag"]) (T__law_bag : TopFn K mg "_law_bag" ZbR ["script"]) (T__law_letters : TopFn K mg "_law_letters" Zbg []) (T__law_part : TopFn K mg "_law_part" ZbI ["bag", "letter", "boxes", "many", "signs"]) (T__law_row : TopFn K mg "_law_row" ZbQ ["bag", "word", "boxes", "many", "signs"]) (T__law_rows : TopFn K mg "_law_rows" ZbG ["bag", "boxes", "many", "signs"]) (T__law_signs : TopFn K mg "_law_signs" Zbv ["bag", "many"]) (T__law_program : TopFn K mg "_law_program" Zbf ["bag"]) (T__law_written : TopFn K mg "_law_written" Zbe ["program"]) (T__law_any_sign : TopFn K mg "_law_any_sign" Za6 ["bag"]) (T__law_run : TopFn K mg "_law_run" ZbP ["bag"]) (T__law_bent_text : TopFn K mg "_law_bent_text" ZaZ ["text", "pick", "bag"]) (T__law_wild_row : TopFn K mg "_law_wild_row" Za5 ["bag"]) (T__law_wild : TopFn K mg "_law_wild" ZbF ["bag"]) (T__law_read : TopFn K mg "_law_read" ZbH ["text"]) (T__law_each_line : TopFn K mg "_law_each_line" ZaY ["text", "pick", "bag"]) (T__law_value : TopFn K mg "_law_value" Zbu ["text", "most"]) (T__law_line : TopFn K mg "_law_line" ZbJ ["some"]) (T__law_program_of : TopFn K mg "_law_program_of" ZaP ["text"]) (T__law_drawn_word : TopFn K mg "_law_drawn_word" ZaQ ["text", "pick", "bag"]) (T__law_bent_lines : TopFn K mg "_law_bent_lines" ZaR ["text", "pick"]) (T__law_spoilt : TopFn K mg "_law_spoilt" Zbo ["text", "pick", "bag"]) (T__law_alike : TopFn K mg "_law_alike" Zbq ["found", "due"]) (T_law : Fun K "law" "law" Zfu f fd) : FnOk P w K mg base CX0 14 f fd ["script"] (Zip K) := by
 have Cread_whole := Zgv (P := P) (w := w) (base := base) B G HX T_read_whole
 have Cread_head := ZgS (P := P) (w := w) (base := base) B HX T_read_head
 have Cread_call := ZgT (P := P) (w := w) (base := base) B HX T_read_call
 have Cread_row := ZhY (P := P) (w := w) (base := base) B HX G T_read_row Cread_call
 have Cread := c_read (P := P) (w := w) (base := base) B G HX T_read Cread_whole Cread_head Cread_row
 have Zah := ZgZ (P := P) (w := w) (base := base) B T__law_draw
 have ZaF := ZfW (P := P) (w := w) (base := base) T__law_number Zah
 have ZjW := Zh1 (P := P) (w := w) (base := base) B T__law_bag
 have Zaz := Ze4 (P := P) (w := w) (base := base) T__law_letters
 have Zd3 := ZgX (P := P) (w := w) (base := base) B T__law_part Zah ZaF
 have ZdP := Zh0 (P := P) (w := w) (base := base) B T__law_row Zah Zaz Zd3
 have Zd2 := ZgV (P := P) (w := w) (base := base) B T__law_rows Zah Zaz ZdP
 have Zdu := Zgx (P := P) (w := w) (base := base) B T__law_signs Zah
 have Zf0 := Ze3 (P := P) (w := w) (base := base) B T__law_program Zah Zdu Zd2
 have ZfZ := Ze2 (P := P) (w := w) (base := base) B T__law_written
 have Zbh := ZeX (P := P) (w := w) (base := base) B T__law_any_sign Zah
 have C_law_run := ZhZ (P := P) (w := w) (base := base) B T__law_run Zah Zbh
 have Zcs := Zei (P := P) (w := w) (base := base) B T__law_bent_text Zbh C_law_run.callee
 have ZcB := ZeW (P := P) (w := w) (base := base) B T__law_wild_row Zah ZaF Zaz
 have Zh4 := ZgU (P := P) (w := w) (base := base) B T__law_wild Zah ZaF ZcB
 have Zfk := ZgW (P := P) (w := w) (base := base) B HX T__law_read Cread
 have Zcr := Zeh (P := P) (w := w) (base := base) B T__law_each_line C_law_run
 have Zb4 := Zgw (P := P) (w := w) (base := base) B T__law_value
 have Zd4 := ZgY (P := P) (w := w) (base := base) B T__law_line Zaz Zb4
 have Zc0 := ZdY (P := P) (w := w) (base := base) B T__law_program_of Zb4 Zd4
 have Zce := ZdZ (P := P) (w := w) (base := base) B T__law_drawn_word Zah ZaF
 have Zcf := Zd0 (P := P) (w := w) (base := base) B T__law_bent_lines Zaz
 have ZgE := ZfV (P := P) (w := w) (base := base) B T__law_spoilt Zcs Zce Zcr Zcf
 have ZcX := Zd1 (P := P) (w := w) (base := base) B T__law_alike (Zd1 B T__law_alike (Zd1 B T__law_alike (Zd1 B T__law_alike (Zd1 B T__law_alike (Zd1 B T__law_alike (al_0 T__law_alike))))))
 refine T_law.law (k := 13) sc_law fun cdv A outer s H a ns Q E hr hS hlen k => ?_
 have nd := sc_law.nd
 have hu := hr.units
 refine' Zbd [some (.ref a), none, none, none, none, none, none, none, none, none, none, none, none] rfl ?hb ?hg
 case' hb => refine' Zac ?bab ?bac
 case bab => exact (Zbx (i := 1) nd rfl (Or.inl rfl) (ZaG ZjW (hr.mono (by first | decide | lia)) (by rfl) (Zaa (pv 0) Zab)))
 case' bac => refine' Zac ?bad ?bae
 case' bad => refine' Zcw (i := 2) ?baf ?bag ?bah ?bai
 case baf => exact nd
 case bag => exact rfl
 case bah => exact (Or.inl rfl)
 case bai => exact (ZcS Zba (ZaG Zah (hr.mono (by first | decide | lia)) (by rfl) (Zaa (pv 1) (Zai Zad Zab))) Zad (Zao _))
 case' bae => refine' Zac ?baj ?bak
 case baj => exact (Zb0 (i := 3) nd rfl (Or.inl rfl) (Za4 Zab))
 case' bak => refine' Zac ?bal ?bam
 case' bal => refine' Zb8 ?ban ?bao ?bap ?baq ?bar
 case ban => exact PassesOwn.never
 case bao => exact rfl
 case' bap => refine' Zbs ?bas ?bat ?bau
 case bas => exact rfl
 case bat => exact B.b_range
 case bau => exact (ZaJ (ZaG Zah (hr.mono (by first | decide | lia)) (by rfl) (Zaa (pv 1) (Zai Zad Zab))) Zab)
 case baq => exact (ZaE (i := 4) nd rfl (Or.inl rfl))
 case' bar => refine' Zaf ?bav
 case' bav => refine' ZbL ?baw
 case' baw => refine' k_bm (K := K) ?bax ?bay ?baz ?bba ?bbb ?bbc ?bbd
 case bax => exact rfl
 case bay => exact PySem.F.plainAttrs_list
 case baz => exact PySem.F.slot_list_append
 case bba => exact PySem.F.type_list_append
 case bbb => exact Zbb
 case bbc => exact (pv 3)
 case' bbd => refine' Zel ?bbe ?bbf
 case' bbe => refine' Za4 ?bbg
 case' bbg => refine' ZaJ ?bbh ?bbi
 case bbh => exact (ZaG Zah (hr.mono (by first | decide | lia)) (by rfl) (Zaa (pv 1) (Zai Zad Zab)))
 case' bbi => refine' ZaJ ?bbj ?bbk
 case bbj => exact (ZaG Zah (hr.mono (by first | decide | lia)) (by rfl) (Zaa (pv 1) (ZaW (Zam Zhp Zad Zad) Zab)))
 case' bbk => refine' ZaJ ?bbl ?bbm
 case bbl => exact (ZaG Zah (hr.mono (by first | decide | lia)) (by rfl) (Zaa (pv 1) (Zai Zad Zab)))
 case bbm => exact (ZaJ (ZaG Zah (hr.mono (by first | decide | lia)) (by rfl) (Zaa (pv 1) (Zai Zad Zab))) Zab)
 case bbf => exact Zab
 case' bam => refine' Zac ?bbn ?bbo
 case' bbn => refine' Zcw (i := 5) ?bbp ?bbq ?bbr ?bbs
 case bbp => exact nd
 case bbq => exact rfl
 case bbr => exact (Or.inl rfl)
 case' bbs => refine' Zhn ?bbt ?bbu ?bbv
 case bbt => exact (ZcE (pv 2))
 case bbu => exact (ZaG Zh4 (hr.mono (by first | decide | lia)) (by rfl) (Zaa (pv 1) Zab))
 case bbv => exact (ZaG Zf0 (hr.mono (by first | decide | lia)) (by rfl) (Zaa (pv 1) Zab))
 case' bbo => refine' Zac ?bbw ?bbx
 case bbw => exact (Zbx (i := 6) nd rfl (Or.inl rfl) (ZaG ZfZ (hr.mono (by first | decide | lia)) (by rfl) (Zaa (pv 5) Zab)))
 case' bbx => refine' Zac ?bby ?bbz
 case bby => exact (Zcw (i := 7) nd rfl (Or.inl rfl) (pv 6))
 case' bbz => refine' Zac ?bca ?bcb
 case' bca => refine' Zb8 ?bcc ?bcd ?bce ?bcf ?bcg
 case bcc => exact PassesOwn.never
 case bcd => exact rfl
 case bce => exact (ZbB (K := K) rfl (pv 3))
 case bcf => exact (ZaE (i := 8) nd rfl (Or.inl rfl))
 case' bcg => refine' Zaf ?bch
 case' bch => refine' Zbx (i := 6) ?bci ?bcj ?bck ?bcl
 case bci => exact nd
 case bcj => exact rfl
 case bck => exact (Or.inl rfl)
 case bcl => exact (ZaG ZgE (hr.mono (by first | decide | lia)) (by rfl) (Zaa (pv 6) (Zaa (pv 8) (Zaa (pv 1) Zab))))
 case' bcb => refine' Zac ?bcm ?bcn
 case bcm => exact (Zbx (i := 9) nd rfl (Or.inl rfl) (ZaG Zc0 (hr.mono (by first | decide | lia)) (by rfl) (Zaa (pv 6) Zab)))
 case' bcn => refine' Zac ?bco ?bcp
 case' bco => refine' Zb8 ?bcq ?bcr ?bcs ?bct ?bcu
 case bcq => exact PassesOwn.never
 case bcr => exact rfl
 case bcs => exact (Zbs rfl B.b_range (Zai Zad Zab))
 case bct => exact (ZaE (i := 4) nd rfl (Or.inl rfl))
 case' bcu => refine' Zac ?bcv ?bcw
 case' bcv => refine' Zc4 ?bcx ?bcy
 case bcx => exact (ZaG Zfk (hr.mono (by first | decide | lia)) (by rfl) (Zaa (pv 6) Zab))
 case bcy => exact (Zen (K := K) (n := 2) rfl rfl (Zcj (ZaE (i := 10) nd rfl (Or.inl rfl)) (Zcj (ZaE (i := 11) nd rfl (Or.inl rfl)) ZfF)))
 case' bcw => refine' Zac ?bcz ?bda
 case' bcz => refine' ZaL ?bdb ?bdc ?bdd
 case' bdb => refine' PW.pt ?bde
 case' bde => refine' ZdD ?bdf ?bdg
 case bdf => exact (Zal ZeI (pv 9) ZbW (Zao _))
 case' bdg => refine' ZcP ?bdh
 case' bdh => refine' PW.pt ?bdi
 case' bdi => refine' ZfD ?bdj ?bdk
 case bdj => exact (Zal ZfH (pv 10) ZbW (Zao _))
 case bdk => exact (Zea (Zal (op_neA hu) (pv 11) (Za4 (Zai Zeg (Zai Zeg (Zai Zeg Zab)))) (Zao _)))
 case bdc => exact (Zaf (Zas Zeg))
 case bdd => exact Zaq
 case' bda => refine' Zac ?bdl ?bdm
 case' bdl => refine' ZaL ?bdn ?bdo ?bdp
 case' bdn => refine' PW.pt ?bdq
 case' bdq => refine' ZdD ?bdr ?bds
 case bdr => exact (Zal ZfH (pv 9) ZbW (Zao _))
 case' bds => refine' ZcP ?bdt
 case' bdt => refine' PW.pt ?bdu
 case' bdu => refine' ZfD ?bdv ?bdw
 case bdv => exact (Zal (k_neE (K := K) rfl hu) (pv 11) (Za4 Zab) (Zao _))
 case bdw => exact (Zea (Zfb (ZcE (ZaG ZcX (hr.mono (by first | decide | lia)) (by rfl) (Zaa (pv 10) (Zaa (pv 9) Zab))))))
 case bdo => exact (Zaf (Zas Zeg))
 case bdp => exact Zaq
 case' bdm => refine' Zac ?bdx ?bdy
 case' bdx => refine' Zc4 ?bdz ?bea
 case bdz => exact (ZaG Zfk (hr.mono (by first | decide | lia)) (by rfl) (Zaa (pv 7) Zab))
 case bea => exact (Zen (K := K) (n := 2) rfl rfl (Zcj (ZaE (i := 10) nd rfl (Or.inl rfl)) (Zcj (ZaE (i := 11) nd rfl (Or.inl rfl)) ZfF)))
 case' bdy => refine' Zac ?beb ?bec
 case beb => exact (Zbx (i := 12) nd rfl (Or.inl rfl) (ZaG Zc0 (hr.mono (by first | decide | lia)) (by rfl) (Zaa (pv 7) Zab)))
 case' bec => refine' Zaf ?bed
 case' bed => refine' ZaL ?bee ?bef ?beg
 case' bee => refine' PW.pt ?beh
 case' beh => refine' ZdD ?bei ?bej
 case bei => exact (Zal ZfH (pv 12) ZbW (Zao _))
 case' bej => refine' ZcP ?bek
 case' bek => refine' PW.pt ?bel
 case' bel => refine' ZfD ?bem ?ben
 case bem => exact (Zal (k_neE (K := K) rfl hu) (pv 11) (Za4 Zab) (Zao _))
 case ben => exact (Zea (Zfb (ZcE (ZaG ZcX (hr.mono (by first | decide | lia)) (by rfl) (Zaa (pv 10) (Zaa (pv 12) Zab))))))
 case bef => exact (Zaf (Zas Zeg))
 case beg => exact Zaq
 case bcp => exact (Zaf (Zas Zeg))
 walk_at "rd"
 refine use1 ⟨a, ns, rfl, hS, hlen, fun b l H1 _ _ B1 => ?_⟩
 walk_at "rd"
 refine use2 ⟨b, l, 2, rfl, rfl, ⟨by decide, by decide⟩, B1, fun r0 H1' _ _ B1' _ => ?_⟩
 clear B1
 walk_at "rd"
 walk_at "mk"; intro pp hpp
 have npp := B1'.ne hpp
 have s2 := Same.new (o := .lst []) hpp
 have e2 : upd H1' pp (.lst []) pp = some (.lst []) := Zae
 have B2 := B1'.mono s2
 generalize upd H1' pp (.lst []) = H2 at s2 e2 B2
 walk_at "rd"
 refine use2 ⟨b, l, 4, rfl, rfl, ⟨by decide, by decide⟩, B2, fun r H3 r0' r1 B3 b3 => ?_⟩
 have e3 := b3 _ _ (Ne.symm npp.1) e2
 walk_at "rd"
 refine ZcJ (by lia) (by lia) ?_
 refine ZdU (n := r.toNat) (fun i σ Hx => Ex2 fun x3 ys => An5 (σ = [some (.ref a), some (.ref b), some (.bl (decide (r0 = 1))), some (.ref pp), x3, none, none, none, none, none, none, none, none]) (Hx pp = some (.lst ys)) (ys.length = i) (∀ y ∈ ys, PkV Hx b pp y) (BagAt Hx b l)) ⟨none, [], rfl, e3, rfl, fun y hy => (by cases hy), B3⟩ ?_ ?_
 ·rintro i σ Hx hi ⟨x3, ys, rfl, ex, hyl, hpk, Bx⟩ N hN
  walk_at "rd"
  refine ⟨.inl ⟨rfl, ys, SqL.of ex⟩, ?_⟩
  walk_at "rd"
  refine use2 ⟨b, l, 16, rfl, rfl, ⟨by decide, by decide⟩, Bx, fun p0 H4 _ _ B4 b4 => ?_⟩
  walk_at "rd"
  refine rd_I (⟨by decide, by decide, by decide⟩ : CPow 10 6) ?_
  walk_at "rd"
  refine use2 ⟨b, l, _, rfl, rfl, ⟨by decide +kernel, by decide +kernel⟩, B4, fun p1 H5 _ _ B5 b5 => ?_⟩
  walk_at "rd"
  refine use2 ⟨b, l, 64, rfl, rfl, ⟨by decide, by decide⟩, B5, fun p2 H6 l2 u2 B6 b6 => ?_⟩
  walk_at "rd"
  refine use2 ⟨b, l, 23, rfl, rfl, ⟨by decide, by decide⟩, B6, fun p3 H7 l3 u3 B7 b7 => ?_⟩
  have b47 := ((b4.trans b5).trans b6).trans b7
  have e7 := b47 _ _ (Ne.symm npp.1) ex
  walk_at "rd"
  refine ⟨show 4 <= PySem.sizeLine by rw [PySem.sizeLine_eq]; decide, fun pk hpk7 => ?_⟩
  have npk : pk ≠ b := fun z => (B7.ne hpk7).1 z.symm
  have npq : pk ≠ pp := fun z => by rw [z, e7] at hpk7; cases hpk7
  have s8 := Same.new (o := .lst [V.int p0, V.int p1, V.int p2, V.int p3]) hpk7
  have e8 : upd H7 pk (.lst [V.int p0, V.int p1, V.int p2, V.int p3]) pk = some (.lst [V.int p0, V.int p1, V.int p2, V.int p3]) := Zae
  have B8 := B7.mono s8
  generalize upd H7 pk (.lst [V.int p0, V.int p1, V.int p2, V.int p3]) = H8 at s8 e8 B8
  walk_at "rd"
  refine ZaV (s8 _ _ e7) (Nat.lt_of_le_of_lt (show ys.length <= 1000000 by lia) (by rw [PySem.sizeLine_eq]; decide)) ?_
  refine hN _ _ ⟨_, _, rfl, Zae, by simp [hyl], fun y hy => ?_, B8.wr npp.1 npp.2⟩
  rcases List.mem_append.mp hy with hy | hy
  ·obtain ⟨pk', q0, q1, q2, q3, e, n1, n2, e', rr, rs⟩ := hpk y hy
   exact ⟨pk', q0, q1, q2, q3, e, n1, n2, by rw [Zaw n2]; exact s8 _ _ (b47 _ _ n1 e'), rr, rs⟩
  ·exact ⟨pk, p0, p1, p2, p3, List.mem_singleton.mp hy, npk, npq, by rw [Zaw npq]; exact e8, ⟨l2, u2⟩, ⟨l3, u3⟩⟩
 rintro σ Hx ⟨x3, ys, rfl, ex, hyl, hpk, Bx⟩
 have hy3 : ys.length <= 3 := by lia
 try dsimp +zetaDelta only
 refine Zgb (Zhl ?_)
 refine Zkb (decide (r0 = 1)) (PgW15 b l Hx) (fun R h => ?_) (fun R h => ?_) (fun R h => ?_) ?_
 ·walk_at "rd"
  exact h
 ·walk_at "rd"
  refine use1 ⟨b, l, rfl, Bx, fun ds q vs H4 hne hl8 hd hq nqb hq4 D4 B4 b4 => h _ _ ⟨ds, q, vs, rfl, ⟨hne, by lia, hd⟩, hl8, hq4, D4.free, B4, b4⟩⟩
 ·walk_at "rd"
  refine use1 ⟨b, l, rfl, Bx, fun sg ds q vs H4 PO hq nqb nql hq4 D4 B4 b4 => ?_⟩
  have hds : ds.length <= 6 := by
   have := PO.sgs.few
   rw [<- PO.heads, List.length_map] at this
   exact this
  exact h _ _ ⟨ds, q, vs, rfl, ⟨fun e => by have := PO.sgs.pos; rw [<- PO.heads, e] at this; exact absurd this (by decide), by lia, ZmP PO⟩, by lia, hq4, D4.free, B4, b4⟩
 rintro v H4 ⟨ds, q, vs, rfl, PT, h8, hq4, D4, B4, b4⟩
 have e4 := b4 _ _ (Ne.symm npp.1) ex
 have hpk4 : ∀ y ∈ ys, PkV H4 b pp y := fun y hy => (hpk y hy).bs b4
 walk_at "rd"
 refine use1 ⟨q, vs, ds, rfl, hq4, D4, fun d hd => (PT.df d hd).1, PT.few, fun H5 s5 => ?_⟩
 have e5 := s5 _ _ e4
 have B5 := B4.mono s5
 have hpk5 : ∀ y ∈ ys, PkV H5 b pp y := fun y hy => (hpk4 y hy).bs (BSame.of s5)
 have tx := PT.tb h8
 have tr := ZhO PT.ne (fun d hd => (PT.df d hd).1.r)
 generalize Zgd ds = t0 at tx tr
 clear D4 hq4 hpk4 e4 B4 b4 hpk Bx ex
 walk_at "rd"
 refine ZcZ (SqL.of e5) ?_
 refine ZeQ (xs := ys) (fun i σ Hz => Ex2 fun (t : Str) (c5 : Option V) => An4 (σ = [some (.ref a), some (.ref b), some (.bl (decide (r0 = 1))), some (.ref pp), x3, some (.ref q), some (.str t), some (.str t0), c5, none, none, none, none]) (TB (bL i) (bF i) (bM i) t) (BagAt Hz b l) (BSame b H5 Hz)) ⟨t0, none, rfl, tx, B5, BSame.refl _ _⟩ (fun i σ Hz _ z_ => by obtain ⟨_, _, _, _, _, bz⟩ := z_; exact SqL.of (bz _ _ (Ne.symm npp.1) e5)) ?_ ?_
 ·rintro i x σ Hz hx ⟨t, c5, rfl, tb, Bz, bz⟩ N hN
  obtain ⟨pk, p0, p1, p2, p3, rfl, npk, _, epk, g2, g3⟩ := hpk5 x (List.mem_of_getElem? hx)
  have hi2 : i < 3 := by
   have h1 := (List.getElem?_eq_some_iff.mp hx).1
   lia
  walk_at "rd"
  refine use3 ⟨t, bL i, bF i, bM i, pk, p0, p1, p2, p3, b, l, rfl, tb, b_ok hi2, rfl, bz _ _ npk epk, npk, rfl, Bz, g2, g3, fun t' HD tb' BD bD => ?_⟩
  walk_at "rd"
  exact hN _ _ ⟨t', _, rfl, tb', BD, bz.trans bD⟩
 rintro σ Hz ⟨t, c5, rfl, tb, Bz, bz⟩
 have tl := Nat.le_trans tb.len (b_end hy3)
 have ta := tb.asc
 clear tb Bz bz
 walk_at "rd"
 rename_i Q1
 have main : ∀ v HA, DueV t HA v -> Q1 v HA := ?_
 ·exact use1 ⟨t, rfl, tl, ta, fun ds q H' e np => main _ _ (by obtain ⟨vs, h1, h2⟩ := np.at; exact .inr ⟨ds, q, vs, e, rfl, h1, h2⟩), fun e H' s => main _ _ (.inl ⟨e, rfl⟩)⟩
 intro v HA dv
 have t0l := Nat.le_trans tx.len (show 800000 <= 900000 by decide)
 have t0a := tx.asc
 have PD := PT.D
 clear tx hpk5 e5 B5 s5
 show Zdl 9 v _ HA _
 walk_at "rd"
 refine ZcJ (by decide) (by decide) ?_
 refine ZdU (n := 2) (fun i σ Hx => Ex4 fun c4 c10 c11 c12 => σ = [some (.ref a), some (.ref b), some (.bl (decide (r0 = 1))), some (.ref pp), c4, some (.ref q), some (.str t), some (.str t0), c5, some v, c10, c11, c12] /\ DueV t Hx v) ⟨_, none, none, none, rfl, dv⟩ ?_ ?_
 ·rintro i σ Hx hi ⟨c4, c10, c11, c12, rfl, dx⟩ N hN
  refine ZlL (fun σ' H' => Ex4 fun c4 c10 c11 c12 => σ' = [some (.ref a), some (.ref b), some (.bl (decide (r0 = 1))), some (.ref pp), c4, some (.ref q), some (.str t), some (.str t0), c5, some v, c10, c11, c12] /\ DueV t H' v) (fun N2 hN2 => ?_) ?_
  ·walk_at "rd"
   refine use1 ⟨t, rfl, tl, ta, fun ds1 p q1 e H1 H2 hw s1 np ep ee => ?_, fun p q1 H2 hw ep eq s2 => ?_⟩
   ·refine ZeC ep rfl ?_
    rcases dx with ⟨z, _⟩ | ⟨ds2, q2, vs2, er, rfl, h2, D2⟩
    ·rw [z] at hw; cases hw
    rw [hw] at er
    cases er
    walk_at "rd"
    refine ZdI (fun z => by cases z) ?_
    walk_at "rd"
    try dsimp only
    walk_at "rd"
    obtain ⟨us, hqB, DB⟩ := np.at
    have s12 := s1.trans np.same
    refine ZdT rfl ?_
    walk_at "rd"
    walk_at "mk"; intro pe hpe
    have s6 := Same.new (o := .lst []) hpe
    have e6 : upd H2 pe (.lst []) pe = some (.lst []) := Zae
    generalize upd H2 pe (.lst []) = H6 at s6 e6
    refine Zld (s6 _ _ ee) e6 ?_
    walk_at "rd"
    refine Zed (fun g => absurd rfl g) (fun _ => ?_)
    walk_at "rd"
    refine use2 ⟨ZjS (s6 _ _ hqB) ((s12.trans s6) _ _ h2) (DB.mono s6) (D2.mono (s12.trans s6)) (read_D hw tl) (ZlC hw tl), ?_⟩
    refine ⟨_, rfl, ?_⟩
    refine Zec (by decide) ?_
    walk_at "rd"
    exact hN2 _ _ ⟨_, _, _, _, rfl, .inr ⟨ds1, q2, vs2, hw, rfl, (s12.trans s6) _ _ h2, D2.mono (s12.trans s6)⟩⟩
   ·refine ZeC ep rfl ?_
    rcases dx with ⟨_, rfl⟩ | ⟨ds2, q2, vs2, er, _⟩
    ·walk_at "rd"
     refine Zfh rfl ?_
     walk_at "rd"
     refine Zec rfl ?_
     walk_at "rd"
     walk_at "mk"; intro pf hpf
     have s7 := Same.new (o := .lst [V.bl true, V.bl true, V.bl false]) hpf
     refine rd_neA (ZjR (s7 _ _ eq) Zae rfl (Zg5 (Alike.refl _ trivial) (Zg5 (Alike.refl _ trivial) (Zg5 (Alike.refl _ trivial) al_nil)))) ?_
     walk_at "rd"
     try dsimp only
     walk_at "rd"
     refine Zec rfl ?_
     walk_at "rd"
     exact hN2 _ _ ⟨_, _, _, _, rfl, .inl ⟨hw, rfl⟩⟩
    ·rw [hw] at er; cases er
  ·rintro σ' H' ⟨c4, c10, c11, c12, rfl, dx⟩
   walk_at "rd"
   refine use1 ⟨t0, rfl, t0l, t0a, fun ds1 p q1 e H1 H2 hw s1 np ep ee => ?_, fun p q1 H2 hw => by rw [tr] at hw; cases hw⟩
   rw [tr] at hw
   cases hw
   refine ZeC ep rfl ?_
   walk_at "rd"
   refine use1 ⟨t0, rfl, t0l, t0a, fun ds2 q2 H3 hw np2 => ?_, fun hw => by rw [tr] at hw; cases hw⟩
   rw [tr] at hw
   cases hw
   walk_at "rd"
   obtain ⟨us, hqB, DB⟩ := np.at
   obtain ⟨us2, hq2, D2⟩ := np2.at
   have s12 := s1.trans np.same
   have s3 := np2.same
   refine ZdT rfl ?_
   walk_at "rd"
   walk_at "mk"; intro pe hpe
   have s6 := Same.new (o := .lst []) hpe
   have e6 : upd H3 pe (.lst []) pe = some (.lst []) := Zae
   generalize upd H3 pe (.lst []) = H6 at s6 e6
   refine Zld (s6 _ _ (s3 _ _ ee)) e6 ?_
   walk_at "rd"
   refine Zed (fun g => absurd rfl g) (fun _ => ?_)
   walk_at "rd"
   refine use2 ⟨ZjS ((s3.trans s6) _ _ hqB) (s6 _ _ hq2) (DB.mono (s3.trans s6)) (D2.mono s6) PD.1 fun d hd r hr => Nat.lt_trans (PD.2 d hd r hr) (by decide), ?_⟩
   refine ⟨_, rfl, ?_⟩
   refine Zec (by decide) ?_
   walk_at "rd"
   exact hN _ _ ⟨_, _, _, _, rfl, dx.mono ((s12.trans s3).trans s6)⟩
 ·rintro σ Hx ⟨c4, c10, c11, c12, rfl, dx⟩
  walk_at "rd"
  exact k _
end
end My
end
end
namespace My
open PySem L2
theorem len_0 {α : Type} {us : List α} (h : us.length = 0) : us = [] := List.eq_nil_of_length_eq_zero h
theorem ZdH {α : Type} {us : List α} (h : us.length = 1) : ∃ a0, us = [a0] := by
 rcases us with _ | ⟨a0, _ | ⟨b, r⟩⟩
 ·simp at h
 ·exact ⟨a0, rfl⟩
 ·simp at h
theorem ZgO {α : Type} {us : List α} (h : us.length = 2) : ∃ a0 a1, us = [a0, a1] := by
 rcases us with _ | ⟨a0, _ | ⟨a1, _ | ⟨b, r⟩⟩⟩
 ·simp at h
 ·simp at h
 ·exact ⟨a0, a1, rfl⟩
 ·simp at h
theorem ZkN {α : Type} {us : List α} (h : us.length = 3) : ∃ a0 a1 a2, us = [a0, a1, a2] := by
 rcases us with _ | ⟨a0, _ | ⟨a1, _ | ⟨a2, _ | ⟨b, r⟩⟩⟩⟩
 ·simp at h
 ·simp at h
 ·simp at h
 ·exact ⟨a0, a1, a2, rfl⟩
 ·simp at h
theorem len_4 {α : Type} {us : List α} (h : us.length = 4) : ∃ a0 a1 a2 a3, us = [a0, a1, a2, a3] := by
 rcases us with _ | ⟨a0, _ | ⟨a1, _ | ⟨a2, _ | ⟨a3, _ | ⟨b, r⟩⟩⟩⟩⟩
 ·simp at h
 ·simp at h
 ·simp at h
 ·simp at h
 ·exact ⟨a0, a1, a2, a3, rfl⟩
 ·simp at h
theorem len_5 {α : Type} {us : List α} (h : us.length = 5) : ∃ a0 a1 a2 a3 a4, us = [a0, a1, a2, a3, a4] := by
 rcases us with _ | ⟨a0, _ | ⟨a1, _ | ⟨a2, _ | ⟨a3, _ | ⟨a4, _ | ⟨b, r⟩⟩⟩⟩⟩⟩
 ·simp at h
 ·simp at h
 ·simp at h
 ·simp at h
 ·simp at h
 ·exact ⟨a0, a1, a2, a3, a4, rfl⟩
 ·simp at h
theorem all_mk {l : PySem.W.OpenLaw} {w : World} {K : PySem.W.Frag} {h : Heap} {mg : Str -> Option Value} {fa : Addr} (X : K.In h) (G : h.Ns mainGlobals mg) (hfa : mg "law" = some (.ref fa))
  {f0 : Addr} {od0 an0 : Option Addr} {sl0 : Array (Option Value)} {oc0 kV0 dc0 pm0 cd0 ct0 : Value}
  {f1 : Addr} {od1 an1 : Option Addr} {sl1 : Array (Option Value)} {oc1 kV1 dc1 pm1 cd1 ct1 : Value}
  {f2 : Addr} {od2 an2 : Option Addr} {sl2 : Array (Option Value)} {oc2 kV2 dc2 pm2 cd2 ct2 : Value}
  {f3 : Addr} {od3 an3 : Option Addr} {sl3 : Array (Option Value)} {oc3 kV3 dc3 pm3 cd3 ct3 : Value}
  {f4 : Addr} {od4 an4 : Option Addr} {sl4 : Array (Option Value)} {oc4 kV4 dc4 pm4 cd4 ct4 : Value}
  {f5 : Addr} {od5 an5 : Option Addr} {sl5 : Array (Option Value)} {oc5 kV5 dc5 pm5 cd5 ct5 : Value}
  {f6 : Addr} {od6 an6 : Option Addr} {sl6 : Array (Option Value)} {oc6 kV6 dc6 pm6 cd6 ct6 : Value}
  {f7 : Addr} {od7 an7 : Option Addr} {sl7 : Array (Option Value)} {oc7 kV7 dc7 pm7 cd7 ct7 : Value}
  {f8 : Addr} {od8 an8 : Option Addr} {sl8 : Array (Option Value)} {oc8 kV8 dc8 pm8 cd8 ct8 : Value}
  {f9 : Addr} {od9 an9 : Option Addr} {sl9 : Array (Option Value)} {oc9 kV9 dc9 pm9 cd9 ct9 : Value}
  {f10 : Addr} {od10 an10 : Option Addr} {sl10 : Array (Option Value)} {oc10 kV10 dc10 pm10 cd10 ct10 : Value}
  {f11 : Addr} {od11 an11 : Option Addr} {sl11 : Array (Option Value)} {oc11 kV11 dc11 pm11 cd11 ct11 : Value}
  {f12 : Addr} {od12 an12 : Option Addr} {sl12 : Array (Option Value)} {oc12 kV12 dc12 pm12 cd12 ct12 : Value}
  {f13 : Addr} {od13 an13 : Option Addr} {sl13 : Array (Option Value)} {oc13 kV13 dc13 pm13 cd13 ct13 : Value}
  {f14 : Addr} {od14 an14 : Option Addr} {sl14 : Array (Option Value)} {oc14 kV14 dc14 pm14 cd14 ct14 : Value}
  {f15 : Addr} {od15 an15 : Option Addr} {sl15 : Array (Option Value)} {oc15 kV15 dc15 pm15 cd15 ct15 : Value}
  {f16 : Addr} {od16 an16 : Option Addr} {sl16 : Array (Option Value)} {oc16 kV16 dc16 pm16 cd16 ct16 : Value}
  {f17 : Addr} {od17 an17 : Option Addr} {sl17 : Array (Option Value)} {oc17 kV17 dc17 pm17 cd17 ct17 : Value}
  {f18 : Addr} {od18 an18 : Option Addr} {sl18 : Array (Option Value)} {oc18 kV18 dc18 pm18 cd18 ct18 : Value}
  {f19 : Addr} {od19 an19 : Option Addr} {sl19 : Array (Option Value)} {oc19 kV19 dc19 pm19 cd19 ct19 : Value}
  {f20 : Addr} {od20 an20 : Option Addr} {sl20 : Array (Option Value)} {oc20 kV20 dc20 pm20 cd20 ct20 : Value}
  {f21 : Addr} {od21 an21 : Option Addr} {sl21 : Array (Option Value)} {oc21 kV21 dc21 pm21 cd21 ct21 : Value}
  {f22 : Addr} {od22 an22 : Option Addr} {sl22 : Array (Option Value)} {oc22 kV22 dc22 pm22 cd22 ct22 : Value}
  {f23 : Addr} {od23 an23 : Option Addr} {sl23 : Array (Option Value)} {oc23 kV23 dc23 pm23 cd23 ct23 : Value}
  {f24 : Addr} {od24 an24 : Option Addr} {sl24 : Array (Option Value)} {oc24 kV24 dc24 pm24 cd24 ct24 : Value}
  {f25 : Addr} {od25 an25 : Option Addr} {sl25 : Array (Option Value)} {oc25 kV25 dc25 pm25 cd25 ct25 : Value}
  {f26 : Addr} {od26 an26 : Option Addr} {sl26 : Array (Option Value)} {oc26 kV26 dc26 pm26 cd26 ct26 : Value}
  {f27 : Addr} {od27 an27 : Option Addr} {sl27 : Array (Option Value)} {oc27 kV27 dc27 pm27 cd27 ct27 : Value}
  {f28 : Addr} {od28 an28 : Option Addr} {sl28 : Array (Option Value)} {oc28 kV28 dc28 pm28 cd28 ct28 : Value}
  {f29 : Addr} {od29 an29 : Option Addr} {sl29 : Array (Option Value)} {oc29 kV29 dc29 pm29 cd29 ct29 : Value}
  {t_FIGURES : Tok}
  {t_MOST_FIGURES : Tok}
  {a_PARTS : Addr} {ep_PARTS : Nat}
  {t_PARTS_0 : Tok} {a_PARTS_0 : Addr} {od_PARTS_0 : Option Addr} {n_PARTS_0 : Nat} {sl_PARTS_0 : Array (Option Value)} {t_PARTS_0_0 t_PARTS_0_1 : Tok}
  {t_PARTS_1 : Tok} {a_PARTS_1 : Addr} {od_PARTS_1 : Option Addr} {n_PARTS_1 : Nat} {sl_PARTS_1 : Array (Option Value)} {t_PARTS_1_0 t_PARTS_1_1 : Tok}
  {t_PARTS_2 : Tok} {a_PARTS_2 : Addr} {od_PARTS_2 : Option Addr} {n_PARTS_2 : Nat} {sl_PARTS_2 : Array (Option Value)} {t_PARTS_2_0 t_PARTS_2_1 t_PARTS_2_2 : Tok}
  {t_PARTS_3 : Tok} {a_PARTS_3 : Addr} {od_PARTS_3 : Option Addr} {n_PARTS_3 : Nat} {sl_PARTS_3 : Array (Option Value)} {t_PARTS_3_0 t_PARTS_3_1 t_PARTS_3_2 : Tok}
  {t_PARTS_4 : Tok} {a_PARTS_4 : Addr} {od_PARTS_4 : Option Addr} {n_PARTS_4 : Nat} {sl_PARTS_4 : Array (Option Value)} {t_PARTS_4_0 t_PARTS_4_1 t_PARTS_4_2 : Tok}
  {t_PARTS_5 : Tok} {a_PARTS_5 : Addr} {od_PARTS_5 : Option Addr} {n_PARTS_5 : Nat} {sl_PARTS_5 : Array (Option Value)} {t_PARTS_5_0 : Tok}
  {t_PARTS_6 : Tok} {a_PARTS_6 : Addr} {od_PARTS_6 : Option Addr} {n_PARTS_6 : Nat} {sl_PARTS_6 : Array (Option Value)} {t_PARTS_6_0 : Tok}
  {t_PARTS_7 : Tok} {a_PARTS_7 : Addr} {od_PARTS_7 : Option Addr} {n_PARTS_7 : Nat} {sl_PARTS_7 : Array (Option Value)} {t_PARTS_7_0 : Tok}
  {t_PARTS_8 : Tok} {a_PARTS_8 : Addr} {od_PARTS_8 : Option Addr} {n_PARTS_8 : Nat} {sl_PARTS_8 : Array (Option Value)} {t_PARTS_8_0 t_PARTS_8_1 : Tok}
  {t_PARTS_9 : Tok} {a_PARTS_9 : Addr} {od_PARTS_9 : Option Addr} {n_PARTS_9 : Nat} {sl_PARTS_9 : Array (Option Value)} {t_PARTS_9_0 t_PARTS_9_1 : Tok}
  {t_PARTS_10 : Tok} {a_PARTS_10 : Addr} {od_PARTS_10 : Option Addr} {n_PARTS_10 : Nat} {sl_PARTS_10 : Array (Option Value)} {t_PARTS_10_0 t_PARTS_10_1 t_PARTS_10_2 : Tok}
  {t_PARTS_11 : Tok} {a_PARTS_11 : Addr} {od_PARTS_11 : Option Addr} {n_PARTS_11 : Nat} {sl_PARTS_11 : Array (Option Value)} {t_PARTS_11_0 : Tok}
  (a0 : PySem.W.nsIn K mainGlobals "read" = some (some (.ref f0))) (l0 : K.lookup f0 = some ⟨oc0, od0, .func (PySem.W.fnOf "read" "read" (ZaI Zd8) (Zay Zd8) (Zag Zd8) .none kV0 dc0 pm0 an0 cd0 ct0), sl0⟩) (c0 : PySem.W.codeIn K cd0 "read" = true) (k0 : PySem.W.keepIn K (.ref f0) = true)
  (a1 : PySem.W.nsIn K mainGlobals "read_head" = some (some (.ref f1))) (l1 : K.lookup f1 = some ⟨oc1, od1, .func (PySem.W.fnOf "read_head" "read_head" (ZaI ZbD) (Zay ZbD) (Zag ZbD) .none kV1 dc1 pm1 an1 cd1 ct1), sl1⟩) (c1 : PySem.W.codeIn K cd1 "read_head" = true) (k1 : PySem.W.keepIn K (.ref f1) = true)
  (a2 : PySem.W.nsIn K mainGlobals "read_row" = some (some (.ref f2))) (l2 : K.lookup f2 = some ⟨oc2, od2, .func (PySem.W.fnOf "read_row" "read_row" (ZaI ZbO) (Zay ZbO) (Zag ZbO) .none kV2 dc2 pm2 an2 cd2 ct2), sl2⟩) (c2 : PySem.W.codeIn K cd2 "read_row" = true) (k2 : PySem.W.keepIn K (.ref f2) = true)
  (a3 : PySem.W.nsIn K mainGlobals "read_call" = some (some (.ref f3))) (l3 : K.lookup f3 = some ⟨oc3, od3, .func (PySem.W.fnOf "read_call" "read_call" (ZaI ZbE) (Zay ZbE) (Zag ZbE) .none kV3 dc3 pm3 an3 cd3 ct3), sl3⟩) (c3 : PySem.W.codeIn K cd3 "read_call" = true) (k3 : PySem.W.keepIn K (.ref f3) = true)
  (a4 : PySem.W.nsIn K mainGlobals "read_whole" = some (some (.ref f4))) (l4 : K.lookup f4 = some ⟨oc4, od4, .func (PySem.W.fnOf "read_whole" "read_whole" (ZaI Zbt) (Zay Zbt) (Zag Zbt) .none kV4 dc4 pm4 an4 cd4 ct4), sl4⟩) (c4 : PySem.W.codeIn K cd4 "read_whole" = true) (k4 : PySem.W.keepIn K (.ref f4) = true)
  (a5 : PySem.W.nsIn K mainGlobals "_law_bag" = some (some (.ref f5))) (l5 : K.lookup f5 = some ⟨oc5, od5, .func (PySem.W.fnOf "_law_bag" "_law_bag" (ZaI ZbR) (Zay ZbR) (Zag ZbR) .none kV5 dc5 pm5 an5 cd5 ct5), sl5⟩) (c5 : PySem.W.codeIn K cd5 "_law_bag" = true) (k5 : PySem.W.keepIn K (.ref f5) = true)
  (a6 : PySem.W.nsIn K mainGlobals "_law_draw" = some (some (.ref f6))) (l6 : K.lookup f6 = some ⟨oc6, od6, .func (PySem.W.fnOf "_law_draw" "_law_draw" (ZaI ZbK) (Zay ZbK) (Zag ZbK) .none kV6 dc6 pm6 an6 cd6 ct6), sl6⟩) (c6 : PySem.W.codeIn K cd6 "_law_draw" = true) (k6 : PySem.W.keepIn K (.ref f6) = true)
  (a7 : PySem.W.nsIn K mainGlobals "_law_number" = some (some (.ref f7))) (l7 : K.lookup f7 = some ⟨oc7, od7, .func (PySem.W.fnOf "_law_number" "_law_number" (ZaI Zbp) (Zay Zbp) (Zag Zbp) .none kV7 dc7 pm7 an7 cd7 ct7), sl7⟩) (c7 : PySem.W.codeIn K cd7 "_law_number" = true) (k7 : PySem.W.keepIn K (.ref f7) = true)
  (a8 : PySem.W.nsIn K mainGlobals "_law_letters" = some (some (.ref f8))) (l8 : K.lookup f8 = some ⟨oc8, od8, .func (PySem.W.fnOf "_law_letters" "_law_letters" (ZaI Zbg) (Zay Zbg) (Zag Zbg) .none kV8 dc8 pm8 an8 cd8 ct8), sl8⟩) (c8 : PySem.W.codeIn K cd8 "_law_letters" = true) (k8 : PySem.W.keepIn K (.ref f8) = true)
  (a9 : PySem.W.nsIn K mainGlobals "_law_part" = some (some (.ref f9))) (l9 : K.lookup f9 = some ⟨oc9, od9, .func (PySem.W.fnOf "_law_part" "_law_part" (ZaI ZbI) (Zay ZbI) (Zag ZbI) .none kV9 dc9 pm9 an9 cd9 ct9), sl9⟩) (c9 : PySem.W.codeIn K cd9 "_law_part" = true) (k9 : PySem.W.keepIn K (.ref f9) = true)
  (a10 : PySem.W.nsIn K mainGlobals "_law_row" = some (some (.ref f10))) (l10 : K.lookup f10 = some ⟨oc10, od10, .func (PySem.W.fnOf "_law_row" "_law_row" (ZaI ZbQ) (Zay ZbQ) (Zag ZbQ) .none kV10 dc10 pm10 an10 cd10 ct10), sl10⟩) (c10 : PySem.W.codeIn K cd10 "_law_row" = true) (k10 : PySem.W.keepIn K (.ref f10) = true)
  (a11 : PySem.W.nsIn K mainGlobals "_law_rows" = some (some (.ref f11))) (l11 : K.lookup f11 = some ⟨oc11, od11, .func (PySem.W.fnOf "_law_rows" "_law_rows" (ZaI ZbG) (Zay ZbG) (Zag ZbG) .none kV11 dc11 pm11 an11 cd11 ct11), sl11⟩) (c11 : PySem.W.codeIn K cd11 "_law_rows" = true) (k11 : PySem.W.keepIn K (.ref f11) = true)
  (a12 : PySem.W.nsIn K mainGlobals "_law_signs" = some (some (.ref f12))) (l12 : K.lookup f12 = some ⟨oc12, od12, .func (PySem.W.fnOf "_law_signs" "_law_signs" (ZaI Zbv) (Zay Zbv) (Zag Zbv) .none kV12 dc12 pm12 an12 cd12 ct12), sl12⟩) (c12 : PySem.W.codeIn K cd12 "_law_signs" = true) (k12 : PySem.W.keepIn K (.ref f12) = true)
  (a13 : PySem.W.nsIn K mainGlobals "_law_program" = some (some (.ref f13))) (l13 : K.lookup f13 = some ⟨oc13, od13, .func (PySem.W.fnOf "_law_program" "_law_program" (ZaI Zbf) (Zay Zbf) (Zag Zbf) .none kV13 dc13 pm13 an13 cd13 ct13), sl13⟩) (c13 : PySem.W.codeIn K cd13 "_law_program" = true) (k13 : PySem.W.keepIn K (.ref f13) = true)
  (a14 : PySem.W.nsIn K mainGlobals "_law_wild_row" = some (some (.ref f14))) (l14 : K.lookup f14 = some ⟨oc14, od14, .func (PySem.W.fnOf "_law_wild_row" "_law_wild_row" (ZaI Za5) (Zay Za5) (Zag Za5) .none kV14 dc14 pm14 an14 cd14 ct14), sl14⟩) (c14 : PySem.W.codeIn K cd14 "_law_wild_row" = true) (k14 : PySem.W.keepIn K (.ref f14) = true)
  (a15 : PySem.W.nsIn K mainGlobals "_law_wild" = some (some (.ref f15))) (l15 : K.lookup f15 = some ⟨oc15, od15, .func (PySem.W.fnOf "_law_wild" "_law_wild" (ZaI ZbF) (Zay ZbF) (Zag ZbF) .none kV15 dc15 pm15 an15 cd15 ct15), sl15⟩) (c15 : PySem.W.codeIn K cd15 "_law_wild" = true) (k15 : PySem.W.keepIn K (.ref f15) = true)
  (a16 : PySem.W.nsIn K mainGlobals "_law_written" = some (some (.ref f16))) (l16 : K.lookup f16 = some ⟨oc16, od16, .func (PySem.W.fnOf "_law_written" "_law_written" (ZaI Zbe) (Zay Zbe) (Zag Zbe) .none kV16 dc16 pm16 an16 cd16 ct16), sl16⟩) (c16 : PySem.W.codeIn K cd16 "_law_written" = true) (k16 : PySem.W.keepIn K (.ref f16) = true)
  (a17 : PySem.W.nsIn K mainGlobals "_law_any_sign" = some (some (.ref f17))) (l17 : K.lookup f17 = some ⟨oc17, od17, .func (PySem.W.fnOf "_law_any_sign" "_law_any_sign" (ZaI Za6) (Zay Za6) (Zag Za6) .none kV17 dc17 pm17 an17 cd17 ct17), sl17⟩) (c17 : PySem.W.codeIn K cd17 "_law_any_sign" = true) (k17 : PySem.W.keepIn K (.ref f17) = true)
  (a18 : PySem.W.nsIn K mainGlobals "_law_run" = some (some (.ref f18))) (l18 : K.lookup f18 = some ⟨oc18, od18, .func (PySem.W.fnOf "_law_run" "_law_run" (ZaI ZbP) (Zay ZbP) (Zag ZbP) .none kV18 dc18 pm18 an18 cd18 ct18), sl18⟩) (c18 : PySem.W.codeIn K cd18 "_law_run" = true) (k18 : PySem.W.keepIn K (.ref f18) = true)
  (a19 : PySem.W.nsIn K mainGlobals "_law_bent_text" = some (some (.ref f19))) (l19 : K.lookup f19 = some ⟨oc19, od19, .func (PySem.W.fnOf "_law_bent_text" "_law_bent_text" (ZaI ZaZ) (Zay ZaZ) (Zag ZaZ) .none kV19 dc19 pm19 an19 cd19 ct19), sl19⟩) (c19 : PySem.W.codeIn K cd19 "_law_bent_text" = true) (k19 : PySem.W.keepIn K (.ref f19) = true)
  (a20 : PySem.W.nsIn K mainGlobals "_law_bent_lines" = some (some (.ref f20))) (l20 : K.lookup f20 = some ⟨oc20, od20, .func (PySem.W.fnOf "_law_bent_lines" "_law_bent_lines" (ZaI ZaR) (Zay ZaR) (Zag ZaR) .none kV20 dc20 pm20 an20 cd20 ct20), sl20⟩) (c20 : PySem.W.codeIn K cd20 "_law_bent_lines" = true) (k20 : PySem.W.keepIn K (.ref f20) = true)
  (a21 : PySem.W.nsIn K mainGlobals "_law_drawn_word" = some (some (.ref f21))) (l21 : K.lookup f21 = some ⟨oc21, od21, .func (PySem.W.fnOf "_law_drawn_word" "_law_drawn_word" (ZaI ZaQ) (Zay ZaQ) (Zag ZaQ) .none kV21 dc21 pm21 an21 cd21 ct21), sl21⟩) (c21 : PySem.W.codeIn K cd21 "_law_drawn_word" = true) (k21 : PySem.W.keepIn K (.ref f21) = true)
  (a22 : PySem.W.nsIn K mainGlobals "_law_each_line" = some (some (.ref f22))) (l22 : K.lookup f22 = some ⟨oc22, od22, .func (PySem.W.fnOf "_law_each_line" "_law_each_line" (ZaI ZaY) (Zay ZaY) (Zag ZaY) .none kV22 dc22 pm22 an22 cd22 ct22), sl22⟩) (c22 : PySem.W.codeIn K cd22 "_law_each_line" = true) (k22 : PySem.W.keepIn K (.ref f22) = true)
  (a23 : PySem.W.nsIn K mainGlobals "_law_spoilt" = some (some (.ref f23))) (l23 : K.lookup f23 = some ⟨oc23, od23, .func (PySem.W.fnOf "_law_spoilt" "_law_spoilt" (ZaI Zbo) (Zay Zbo) (Zag Zbo) .none kV23 dc23 pm23 an23 cd23 ct23), sl23⟩) (c23 : PySem.W.codeIn K cd23 "_law_spoilt" = true) (k23 : PySem.W.keepIn K (.ref f23) = true)
  (a24 : PySem.W.nsIn K mainGlobals "_law_value" = some (some (.ref f24))) (l24 : K.lookup f24 = some ⟨oc24, od24, .func (PySem.W.fnOf "_law_value" "_law_value" (ZaI Zbu) (Zay Zbu) (Zag Zbu) .none kV24 dc24 pm24 an24 cd24 ct24), sl24⟩) (c24 : PySem.W.codeIn K cd24 "_law_value" = true) (k24 : PySem.W.keepIn K (.ref f24) = true)
  (a25 : PySem.W.nsIn K mainGlobals "_law_line" = some (some (.ref f25))) (l25 : K.lookup f25 = some ⟨oc25, od25, .func (PySem.W.fnOf "_law_line" "_law_line" (ZaI ZbJ) (Zay ZbJ) (Zag ZbJ) .none kV25 dc25 pm25 an25 cd25 ct25), sl25⟩) (c25 : PySem.W.codeIn K cd25 "_law_line" = true) (k25 : PySem.W.keepIn K (.ref f25) = true)
  (a26 : PySem.W.nsIn K mainGlobals "_law_program_of" = some (some (.ref f26))) (l26 : K.lookup f26 = some ⟨oc26, od26, .func (PySem.W.fnOf "_law_program_of" "_law_program_of" (ZaI ZaP) (Zay ZaP) (Zag ZaP) .none kV26 dc26 pm26 an26 cd26 ct26), sl26⟩) (c26 : PySem.W.codeIn K cd26 "_law_program_of" = true) (k26 : PySem.W.keepIn K (.ref f26) = true)
  (a27 : PySem.W.nsIn K mainGlobals "_law_read" = some (some (.ref f27))) (l27 : K.lookup f27 = some ⟨oc27, od27, .func (PySem.W.fnOf "_law_read" "_law_read" (ZaI ZbH) (Zay ZbH) (Zag ZbH) .none kV27 dc27 pm27 an27 cd27 ct27), sl27⟩) (c27 : PySem.W.codeIn K cd27 "_law_read" = true) (k27 : PySem.W.keepIn K (.ref f27) = true)
  (a28 : PySem.W.nsIn K mainGlobals "_law_alike" = some (some (.ref f28))) (l28 : K.lookup f28 = some ⟨oc28, od28, .func (PySem.W.fnOf "_law_alike" "_law_alike" (ZaI Zbq) (Zay Zbq) (Zag Zbq) .none kV28 dc28 pm28 an28 cd28 ct28), sl28⟩) (c28 : PySem.W.codeIn K cd28 "_law_alike" = true) (k28 : PySem.W.keepIn K (.ref f28) = true)
  (a29 : PySem.W.nsIn K mainGlobals "law" = some (some (.ref f29))) (l29 : K.lookup f29 = some ⟨oc29, od29, .func (PySem.W.fnOf "law" "law" (ZaI Zfu) (Zay Zfu) (Zag Zfu) .none kV29 dc29 pm29 an29 cd29 ct29), sl29⟩) (c29 : PySem.W.codeIn K cd29 "law" = true) (k29 : PySem.W.keepIn K (.ref f29) = true)
  (g_FIGURES : PySem.W.nsIn K mainGlobals "FIGURES" = some (some (.str "0123456789" t_FIGURES)))
  (g_MOST_FIGURES : PySem.W.nsIn K mainGlobals "MOST_FIGURES" = some (some (.int 60 t_MOST_FIGURES)))
  (g_PARTS : PySem.W.nsIn K mainGlobals "PARTS" = some (some (.ref a_PARTS))) (h_PARTS : K.lookup a_PARTS = some { cls := .type "dict", data := .dict #[⟨hashStr w "put", .str "put" t_PARTS_0, .ref a_PARTS_0⟩, ⟨hashStr w "copy", .str "copy" t_PARTS_1, .ref a_PARTS_1⟩, ⟨hashStr w "plus", .str "plus" t_PARTS_2, .ref a_PARTS_2⟩, ⟨hashStr w "less", .str "less" t_PARTS_3, .ref a_PARTS_3⟩, ⟨hashStr w "times", .str "times" t_PARTS_4, .ref a_PARTS_4⟩, ⟨hashStr w "take", .str "take" t_PARTS_5, .ref a_PARTS_5⟩, ⟨hashStr w "tell", .str "tell" t_PARTS_6, .ref a_PARTS_6⟩, ⟨hashStr w "jump", .str "jump" t_PARTS_7, .ref a_PARTS_7⟩, ⟨hashStr w "zero", .str "zero" t_PARTS_8, .ref a_PARTS_8⟩, ⟨hashStr w "below", .str "below" t_PARTS_9, .ref a_PARTS_9⟩, ⟨hashStr w "call", .str "call" t_PARTS_10, .ref a_PARTS_10⟩, ⟨hashStr w "back", .str "back" t_PARTS_11, .ref a_PARTS_11⟩] ep_PARTS }) (s_PARTS : (a_PARTS == sysModules) = false)
  (h_PARTS_0 : K.lookup a_PARTS_0 = some ⟨.type "tuple", od_PARTS_0, .seq #[.str "box" t_PARTS_0_0, .str "number" t_PARTS_0_1] n_PARTS_0, sl_PARTS_0⟩)
  (h_PARTS_1 : K.lookup a_PARTS_1 = some ⟨.type "tuple", od_PARTS_1, .seq #[.str "box" t_PARTS_1_0, .str "box" t_PARTS_1_1] n_PARTS_1, sl_PARTS_1⟩)
  (h_PARTS_2 : K.lookup a_PARTS_2 = some ⟨.type "tuple", od_PARTS_2, .seq #[.str "box" t_PARTS_2_0, .str "box" t_PARTS_2_1, .str "box" t_PARTS_2_2] n_PARTS_2, sl_PARTS_2⟩)
  (h_PARTS_3 : K.lookup a_PARTS_3 = some ⟨.type "tuple", od_PARTS_3, .seq #[.str "box" t_PARTS_3_0, .str "box" t_PARTS_3_1, .str "box" t_PARTS_3_2] n_PARTS_3, sl_PARTS_3⟩)
  (h_PARTS_4 : K.lookup a_PARTS_4 = some ⟨.type "tuple", od_PARTS_4, .seq #[.str "box" t_PARTS_4_0, .str "box" t_PARTS_4_1, .str "factor" t_PARTS_4_2] n_PARTS_4, sl_PARTS_4⟩)
  (h_PARTS_5 : K.lookup a_PARTS_5 = some ⟨.type "tuple", od_PARTS_5, .seq #[.str "box" t_PARTS_5_0] n_PARTS_5, sl_PARTS_5⟩)
  (h_PARTS_6 : K.lookup a_PARTS_6 = some ⟨.type "tuple", od_PARTS_6, .seq #[.str "box" t_PARTS_6_0] n_PARTS_6, sl_PARTS_6⟩)
  (h_PARTS_7 : K.lookup a_PARTS_7 = some ⟨.type "tuple", od_PARTS_7, .seq #[.str "row" t_PARTS_7_0] n_PARTS_7, sl_PARTS_7⟩)
  (h_PARTS_8 : K.lookup a_PARTS_8 = some ⟨.type "tuple", od_PARTS_8, .seq #[.str "box" t_PARTS_8_0, .str "row" t_PARTS_8_1] n_PARTS_8, sl_PARTS_8⟩)
  (h_PARTS_9 : K.lookup a_PARTS_9 = some ⟨.type "tuple", od_PARTS_9, .seq #[.str "box" t_PARTS_9_0, .str "row" t_PARTS_9_1] n_PARTS_9, sl_PARTS_9⟩)
  (h_PARTS_10 : K.lookup a_PARTS_10 = some ⟨.type "tuple", od_PARTS_10, .seq #[.str "box" t_PARTS_10_0, .str "def" t_PARTS_10_1, .str "boxes" t_PARTS_10_2] n_PARTS_10, sl_PARTS_10⟩)
  (h_PARTS_11 : K.lookup a_PARTS_11 = some ⟨.type "tuple", od_PARTS_11, .seq #[.str "box" t_PARTS_11_0] n_PARTS_11, sl_PARTS_11⟩)
  {Zaj : Addr} (e_NoText : PySem.W.nsIn K mainGlobals "NoText" = some (some (.ref Zaj)))
  {ZaA : Addr} (e_LaneError : PySem.W.nsIn K mainGlobals "LaneError" = some (some (.ref ZaA)))
  {Zav : Addr} (e_NotFormed : PySem.W.nsIn K mainGlobals "NotFormed" = some (some (.ref Zav)))
  {ZaX : Addr} (e_Faulty : PySem.W.nsIn K mainGlobals "Faulty" = some (some (.ref ZaX)))
  (e_exc : PySem.W.excIn K Zaj bmVE "ValueError.__new__" = true) (e_x : PySem.W.exmOne K (.ref Zaj) (.ref ZaA) = some true)
  (e_ga : PySem.W.findIn K (.ref Zaj) "__getattribute__" = some (some (.builtin "BaseException.__getattribute__"))) (e_gh : PySem.W.findIn K (.ref Zaj) "__getattr__" = some none) (e_fc : PySem.W.findIn K (.ref Zaj) "__class__" = some (some (.builtin "object.__class__")))
  (e_sg : PySem.W.specialIn K (.builtin "object.__class__") "__get__" = some (some (.builtin "getset_descriptor.__get__"))) (e_tk : PySem.W.takesIn K (.builtin "object.__class__") = some true) (e_mo : PySem.W.mroIn K Zaj (.type "object") = some true) (e_mb : PySem.W.mroIn K Zaj (.type "BaseException") = some true)
  (e_kc : PySem.W.kitCls K (.ref Zaj) (.ref Zaj) = some true) (e_kV : PySem.W.kitCls K (.ref Zaj) (.type "ValueError") = some true) (e_kN : PySem.W.kitCls K (.ref Zaj) (.ref Zav) = some false) (e_kF : PySem.W.kitCls K (.ref Zaj) (.ref ZaX) = some false)
  (e_nN : (Value.ref Zaj == Value.ref Zav) = false) (e_nF : (Value.ref Zaj == Value.ref ZaX) = false)
  (z_ValueError : PySem.W.nsIn K mainGlobals "ValueError" = some none)
  (z_abs : PySem.W.nsIn K mainGlobals "abs" = some none)
  (z_all : PySem.W.nsIn K mainGlobals "all" = some none)
  (z_bool : PySem.W.nsIn K mainGlobals "bool" = some none)
  (z_int : PySem.W.nsIn K mainGlobals "int" = some none)
  (z_isinstance : PySem.W.nsIn K mainGlobals "isinstance" = some none)
  (z_len : PySem.W.nsIn K mainGlobals "len" = some none)
  (z_list : PySem.W.nsIn K mainGlobals "list" = some none)
  (z_min : PySem.W.nsIn K mainGlobals "min" = some none)
  (z_range : PySem.W.nsIn K mainGlobals "range" = some none)
  (z_str : PySem.W.nsIn K mainGlobals "str" = some none)
  (z_tuple : PySem.W.nsIn K mainGlobals "tuple" = some none)
  : ∃ fd : FuncData, (∀ (s : Shared) (v : Value), BindsTo s fd ⟨[v], []⟩ [("script", v)]) /\ ∀ base : Heap, K.In base -> base.Ns mainGlobals mg -> FnOk l.prog w K mg base CX0 14 fa fd ["script"] (Zip K) := by
 have HX : ExH K mg Zaj ZaA Zav ZaX := ⟨PySem.W.mg_of X G e_NoText, e_exc, PySem.W.mg_of X G e_LaneError, PySem.W.mg_of X G e_NotFormed, PySem.W.mg_of X G e_Faulty, e_x, ⟨e_ga, e_gh, e_fc, e_sg, e_tk, e_mo, e_mb, e_kc⟩, e_kV, e_kN, e_kF, e_nN, e_nF⟩
 have B : Blt mg := ⟨PySem.W.mg_none_of X G z_ValueError, PySem.W.mg_none_of X G z_abs, PySem.W.mg_none_of X G z_all, PySem.W.mg_none_of X G z_bool, PySem.W.mg_none_of X G z_int, PySem.W.mg_none_of X G z_isinstance, PySem.W.mg_none_of X G z_len, PySem.W.mg_none_of X G z_list, PySem.W.mg_none_of X G z_min, PySem.W.mg_none_of X G z_range, PySem.W.mg_none_of X G z_str, PySem.W.mg_none_of X G z_tuple⟩
 have GG : Glb K w mg := ⟨⟨_, PySem.W.mg_of X G g_FIGURES⟩, ⟨_, PySem.W.mg_of X G g_MOST_FIGURES⟩, ⟨_, PySem.W.mg_of X G g_PARTS, s_PARTS, by decide +kernel, [("put", t_PARTS_0, a_PARTS_0), ("copy", t_PARTS_1, a_PARTS_1), ("plus", t_PARTS_2, a_PARTS_2), ("less", t_PARTS_3, a_PARTS_3), ("times", t_PARTS_4, a_PARTS_4), ("take", t_PARTS_5, a_PARTS_5), ("tell", t_PARTS_6, a_PARTS_6), ("jump", t_PARTS_7, a_PARTS_7), ("zero", t_PARTS_8, a_PARTS_8), ("below", t_PARTS_9, a_PARTS_9), ("call", t_PARTS_10, a_PARTS_10), ("back", t_PARTS_11, a_PARTS_11)], ep_PARTS, h_PARTS, .cons ⟨rfl, ⟨_, _, _, h_PARTS_0, rfl, rfl, ZdS rfl, .cons ⟨_, rfl⟩ (.cons ⟨_, rfl⟩ (.nil))⟩⟩ (.cons ⟨rfl, ⟨_, _, _, h_PARTS_1, rfl, rfl, ZdS rfl, .cons ⟨_, rfl⟩ (.cons ⟨_, rfl⟩ (.nil))⟩⟩ (.cons ⟨rfl, ⟨_, _, _, h_PARTS_2, rfl, rfl, ZdS rfl, .cons ⟨_, rfl⟩ (.cons ⟨_, rfl⟩ (.cons ⟨_, rfl⟩ (.nil)))⟩⟩ (.cons ⟨rfl, ⟨_, _, _, h_PARTS_3, rfl, rfl, ZdS rfl, .cons ⟨_, rfl⟩ (.cons ⟨_, rfl⟩ (.cons ⟨_, rfl⟩ (.nil)))⟩⟩ (.cons ⟨rfl, ⟨_, _, _, h_PARTS_4, rfl, rfl, ZdS rfl, .cons ⟨_, rfl⟩ (.cons ⟨_, rfl⟩ (.cons ⟨_, rfl⟩ (.nil)))⟩⟩ (.cons ⟨rfl, ⟨_, _, _, h_PARTS_5, rfl, rfl, ZdS rfl, .cons ⟨_, rfl⟩ (.nil)⟩⟩ (.cons ⟨rfl, ⟨_, _, _, h_PARTS_6, rfl, rfl, ZdS rfl, .cons ⟨_, rfl⟩ (.nil)⟩⟩ (.cons ⟨rfl, ⟨_, _, _, h_PARTS_7, rfl, rfl, ZdS rfl, .cons ⟨_, rfl⟩ (.nil)⟩⟩ (.cons ⟨rfl, ⟨_, _, _, h_PARTS_8, rfl, rfl, ZdS rfl, .cons ⟨_, rfl⟩ (.cons ⟨_, rfl⟩ (.nil))⟩⟩ (.cons ⟨rfl, ⟨_, _, _, h_PARTS_9, rfl, rfl, ZdS rfl, .cons ⟨_, rfl⟩ (.cons ⟨_, rfl⟩ (.nil))⟩⟩ (.cons ⟨rfl, ⟨_, _, _, h_PARTS_10, rfl, rfl, ZdS rfl, .cons ⟨_, rfl⟩ (.cons ⟨_, rfl⟩ (.cons ⟨_, rfl⟩ (.nil)))⟩⟩ (.cons ⟨rfl, ⟨_, _, _, h_PARTS_11, rfl, rfl, ZdS rfl, .cons ⟨_, rfl⟩ (.nil)⟩⟩ (.nil))))))))))))⟩⟩
 have F0 := Zbm (st := Zd8) l0 c0 k0
 have T_read : TopFn K mg "read" Zd8 ["text"] := ⟨_, _, F0, PySem.W.mg_of X G a0, F0.binds (ps := ["text"]) fun _ _ _ _ _ _ us hl => by obtain ⟨_, rfl⟩ := ZdH hl; rfl⟩
 have F1 := Zbm (st := ZbD) l1 c1 k1
 have T_read_head : TopFn K mg "read_head" ZbD ["numbers"] := ⟨_, _, F1, PySem.W.mg_of X G a1, F1.binds (ps := ["numbers"]) fun _ _ _ _ _ _ us hl => by obtain ⟨_, rfl⟩ := ZdH hl; rfl⟩
 have F2 := Zbm (st := ZbO) l2 c2 k2
 have T_read_row : TopFn K mg "read_row" ZbO ["word", "numbers"] := ⟨_, _, F2, PySem.W.mg_of X G a2, F2.binds (ps := ["word", "numbers"]) fun _ _ _ _ _ _ us hl => by obtain ⟨_, _, rfl⟩ := ZgO hl; rfl⟩
 have F3 := Zbm (st := ZbE) l3 c3 k3
 have T_read_call : TopFn K mg "read_call" ZbE ["numbers"] := ⟨_, _, F3, PySem.W.mg_of X G a3, F3.binds (ps := ["numbers"]) fun _ _ _ _ _ _ us hl => by obtain ⟨_, rfl⟩ := ZdH hl; rfl⟩
 have F4 := Zbm (st := Zbt) l4 c4 k4
 have T_read_whole : TopFn K mg "read_whole" Zbt ["text", "most"] := ⟨_, _, F4, PySem.W.mg_of X G a4, F4.binds (ps := ["text", "most"]) fun _ _ _ _ _ _ us hl => by obtain ⟨_, _, rfl⟩ := ZgO hl; rfl⟩
 have F5 := Zbm (st := ZbR) l5 c5 k5
 have T__law_bag : TopFn K mg "_law_bag" ZbR ["script"] := ⟨_, _, F5, PySem.W.mg_of X G a5, F5.binds (ps := ["script"]) fun _ _ _ _ _ _ us hl => by obtain ⟨_, rfl⟩ := ZdH hl; rfl⟩
 have F6 := Zbm (st := ZbK) l6 c6 k6
 have T__law_draw : TopFn K mg "_law_draw" ZbK ["bag", "many"] := ⟨_, _, F6, PySem.W.mg_of X G a6, F6.binds (ps := ["bag", "many"]) fun _ _ _ _ _ _ us hl => by obtain ⟨_, _, rfl⟩ := ZgO hl; rfl⟩
 have F7 := Zbm (st := Zbp) l7 c7 k7
 have T__law_number : TopFn K mg "_law_number" Zbp ["bag"] := ⟨_, _, F7, PySem.W.mg_of X G a7, F7.binds (ps := ["bag"]) fun _ _ _ _ _ _ us hl => by obtain ⟨_, rfl⟩ := ZdH hl; rfl⟩
 have F8 := Zbm (st := Zbg) l8 c8 k8
 have T__law_letters : TopFn K mg "_law_letters" Zbg [] := ⟨_, _, F8, PySem.W.mg_of X G a8, F8.binds (ps := []) fun _ _ _ _ _ _ us hl => by obtain rfl := len_0 hl; rfl⟩
 have F9 := Zbm (st := ZbI) l9 c9 k9
 have T__law_part : TopFn K mg "_law_part" ZbI ["bag", "letter", "boxes", "many", "signs"] := ⟨_, _, F9, PySem.W.mg_of X G a9, F9.binds (ps := ["bag", "letter", "boxes", "many", "signs"]) fun _ _ _ _ _ _ us hl => by obtain ⟨_, _, _, _, _, rfl⟩ := len_5 hl; rfl⟩
 have F10 := Zbm (st := ZbQ) l10 c10 k10
 have T__law_row : TopFn K mg "_law_row" ZbQ ["bag", "word", "boxes", "many", "signs"] := ⟨_, _, F10, PySem.W.mg_of X G a10, F10.binds (ps := ["bag", "word", "boxes", "many", "signs"]) fun _ _ _ _ _ _ us hl => by obtain ⟨_, _, _, _, _, rfl⟩ := len_5 hl; rfl⟩
 have F11 := Zbm (st := ZbG) l11 c11 k11
 have T__law_rows : TopFn K mg "_law_rows" ZbG ["bag", "boxes", "many", "signs"] := ⟨_, _, F11, PySem.W.mg_of X G a11, F11.binds (ps := ["bag", "boxes", "many", "signs"]) fun _ _ _ _ _ _ us hl => by obtain ⟨_, _, _, _, rfl⟩ := len_4 hl; rfl⟩
 have F12 := Zbm (st := Zbv) l12 c12 k12
 have T__law_signs : TopFn K mg "_law_signs" Zbv ["bag", "many"] := ⟨_, _, F12, PySem.W.mg_of X G a12, F12.binds (ps := ["bag", "many"]) fun _ _ _ _ _ _ us hl => by obtain ⟨_, _, rfl⟩ := ZgO hl; rfl⟩
 have F13 := Zbm (st := Zbf) l13 c13 k13
 have T__law_program : TopFn K mg "_law_program" Zbf ["bag"] := ⟨_, _, F13, PySem.W.mg_of X G a13, F13.binds (ps := ["bag"]) fun _ _ _ _ _ _ us hl => by obtain ⟨_, rfl⟩ := ZdH hl; rfl⟩
 have F14 := Zbm (st := Za5) l14 c14 k14
 have T__law_wild_row : TopFn K mg "_law_wild_row" Za5 ["bag"] := ⟨_, _, F14, PySem.W.mg_of X G a14, F14.binds (ps := ["bag"]) fun _ _ _ _ _ _ us hl => by obtain ⟨_, rfl⟩ := ZdH hl; rfl⟩
 have F15 := Zbm (st := ZbF) l15 c15 k15
 have T__law_wild : TopFn K mg "_law_wild" ZbF ["bag"] := ⟨_, _, F15, PySem.W.mg_of X G a15, F15.binds (ps := ["bag"]) fun _ _ _ _ _ _ us hl => by obtain ⟨_, rfl⟩ := ZdH hl; rfl⟩
 have F16 := Zbm (st := Zbe) l16 c16 k16
 have T__law_written : TopFn K mg "_law_written" Zbe ["program"] := ⟨_, _, F16, PySem.W.mg_of X G a16, F16.binds (ps := ["program"]) fun _ _ _ _ _ _ us hl => by obtain ⟨_, rfl⟩ := ZdH hl; rfl⟩
 have F17 := Zbm (st := Za6) l17 c17 k17
 have T__law_any_sign : TopFn K mg "_law_any_sign" Za6 ["bag"] := ⟨_, _, F17, PySem.W.mg_of X G a17, F17.binds (ps := ["bag"]) fun _ _ _ _ _ _ us hl => by obtain ⟨_, rfl⟩ := ZdH hl; rfl⟩
 have F18 := Zbm (st := ZbP) l18 c18 k18
 have T__law_run : TopFn K mg "_law_run" ZbP ["bag"] := ⟨_, _, F18, PySem.W.mg_of X G a18, F18.binds (ps := ["bag"]) fun _ _ _ _ _ _ us hl => by obtain ⟨_, rfl⟩ := ZdH hl; rfl⟩
 have F19 := Zbm (st := ZaZ) l19 c19 k19
 have T__law_bent_text : TopFn K mg "_law_bent_text" ZaZ ["text", "pick", "bag"] := ⟨_, _, F19, PySem.W.mg_of X G a19, F19.binds (ps := ["text", "pick", "bag"]) fun _ _ _ _ _ _ us hl => by obtain ⟨_, _, _, rfl⟩ := ZkN hl; rfl⟩
 have F20 := Zbm (st := ZaR) l20 c20 k20
 have T__law_bent_lines : TopFn K mg "_law_bent_lines" ZaR ["text", "pick"] := ⟨_, _, F20, PySem.W.mg_of X G a20, F20.binds (ps := ["text", "pick"]) fun _ _ _ _ _ _ us hl => by obtain ⟨_, _, rfl⟩ := ZgO hl; rfl⟩
 have F21 := Zbm (st := ZaQ) l21 c21 k21
 have T__law_drawn_word : TopFn K mg "_law_drawn_word" ZaQ ["text", "pick", "bag"] := ⟨_, _, F21, PySem.W.mg_of X G a21, F21.binds (ps := ["text", "pick", "bag"]) fun _ _ _ _ _ _ us hl => by obtain ⟨_, _, _, rfl⟩ := ZkN hl; rfl⟩
 have F22 := Zbm (st := ZaY) l22 c22 k22
 have T__law_each_line : TopFn K mg "_law_each_line" ZaY ["text", "pick", "bag"] := ⟨_, _, F22, PySem.W.mg_of X G a22, F22.binds (ps := ["text", "pick", "bag"]) fun _ _ _ _ _ _ us hl => by obtain ⟨_, _, _, rfl⟩ := ZkN hl; rfl⟩
 have F23 := Zbm (st := Zbo) l23 c23 k23
 have T__law_spoilt : TopFn K mg "_law_spoilt" Zbo ["text", "pick", "bag"] := ⟨_, _, F23, PySem.W.mg_of X G a23, F23.binds (ps := ["text", "pick", "bag"]) fun _ _ _ _ _ _ us hl => by obtain ⟨_, _, _, rfl⟩ := ZkN hl; rfl⟩
 have F24 := Zbm (st := Zbu) l24 c24 k24
 have T__law_value : TopFn K mg "_law_value" Zbu ["text", "most"] := ⟨_, _, F24, PySem.W.mg_of X G a24, F24.binds (ps := ["text", "most"]) fun _ _ _ _ _ _ us hl => by obtain ⟨_, _, rfl⟩ := ZgO hl; rfl⟩
 have F25 := Zbm (st := ZbJ) l25 c25 k25
 have T__law_line : TopFn K mg "_law_line" ZbJ ["some"] := ⟨_, _, F25, PySem.W.mg_of X G a25, F25.binds (ps := ["some"]) fun _ _ _ _ _ _ us hl => by obtain ⟨_, rfl⟩ := ZdH hl; rfl⟩
 have F26 := Zbm (st := ZaP) l26 c26 k26
 have T__law_program_of : TopFn K mg "_law_program_of" ZaP ["text"] := ⟨_, _, F26, PySem.W.mg_of X G a26, F26.binds (ps := ["text"]) fun _ _ _ _ _ _ us hl => by obtain ⟨_, rfl⟩ := ZdH hl; rfl⟩
 have F27 := Zbm (st := ZbH) l27 c27 k27
 have T__law_read : TopFn K mg "_law_read" ZbH ["text"] := ⟨_, _, F27, PySem.W.mg_of X G a27, F27.binds (ps := ["text"]) fun _ _ _ _ _ _ us hl => by obtain ⟨_, rfl⟩ := ZdH hl; rfl⟩
 have F28 := Zbm (st := Zbq) l28 c28 k28
 have T__law_alike : TopFn K mg "_law_alike" Zbq ["found", "due"] := ⟨_, _, F28, PySem.W.mg_of X G a28, F28.binds (ps := ["found", "due"]) fun _ _ _ _ _ _ us hl => by obtain ⟨_, _, rfl⟩ := ZgO hl; rfl⟩
 have F29 := Zbm (st := Zfu) l29 c29 k29
 have e := hfa.symm.trans (PySem.W.mg_of X G a29)
 cases e
 refine ⟨PySem.W.fnOf "law" "law" (ZaI Zfu) (Zay Zfu) (Zag Zfu) .none kV29 dc29 pm29 an29 cd29 ct29, fun s v => .of_eq rfl, fun base _ _ => ?_⟩
 exact Zjh (B := B) (HX := HX) (G := GG) (T_read := T_read) (T_read_head := T_read_head) (T_read_row := T_read_row) (T_read_call := T_read_call) (T_read_whole := T_read_whole) (T__law_bag := T__law_bag) (T__law_draw := T__law_draw) (T__law_number := T__law_number) (T__law_letters := T__law_letters) (T__law_part := T__law_part) (T__law_row := T__law_row) (T__law_rows := T__law_rows) (T__law_signs := T__law_signs) (T__law_program := T__law_program) (T__law_wild_row := T__law_wild_row) (T__law_wild := T__law_wild) (T__law_written := T__law_written) (T__law_any_sign := T__law_any_sign) (T__law_run := T__law_run) (T__law_bent_text := T__law_bent_text) (T__law_bent_lines := T__law_bent_lines) (T__law_drawn_word := T__law_drawn_word) (T__law_each_line := T__law_each_line) (T__law_spoilt := T__law_spoilt) (T__law_value := T__law_value) (T__law_line := T__law_line) (T__law_program_of := T__law_program_of) (T__law_read := T__law_read) (T__law_alike := T__law_alike) (T_law := F29)
end My
open PySem PySem.W PyProof.Rows
set_option maxRecDepth 100000 in
set_option maxHeartbeats 0 in
theorem PySem.Challenge.cw_midlanes_k15_texts_that_are_none_holds : PySem.Challenge.rw_midlanes_k15_texts_that_are_none.Holds := by
 w_on; o_law; k_head; (case hw => w_witness2)
 k_fill
 refine L2.Zh7 (l := PySem.Challenge.rw_midlanes_k15_texts_that_are_none) (n := 63) (k := 14) (x := "script") (CX := fun _ => L2.CX0) (sp := fun w => L2.Zip _) rfl (by decide) rfl ⟨rfl, by decide, by decide⟩ (fun w h Y => PySem.W.kIn_of Y) ?F (fun _ _ a ns hl _ hS => L2.Zj8 hl hS) (fun _ _ _ _ _ z => z)
 case F =>
  intro w mg fa h KX G hmg
  refine' My.all_mk KX G hmg ?a0 ?l0 ?c0 ?k0 ?a1 ?l1 ?c1 ?k1 ?a2 ?l2 ?c2 ?k2 ?a3 ?l3 ?c3 ?k3 ?a4 ?l4 ?c4 ?k4 ?a5 ?l5 ?c5 ?k5 ?a6 ?l6 ?c6 ?k6 ?a7 ?l7 ?c7 ?k7 ?a8 ?l8 ?c8 ?k8 ?a9 ?l9 ?c9 ?k9 ?a10 ?l10 ?c10 ?k10 ?a11 ?l11 ?c11 ?k11 ?a12 ?l12 ?c12 ?k12 ?a13 ?l13 ?c13 ?k13 ?a14 ?l14 ?c14 ?k14 ?a15 ?l15 ?c15 ?k15 ?a16 ?l16 ?c16 ?k16 ?a17 ?l17 ?c17 ?k17 ?a18 ?l18 ?c18 ?k18 ?a19 ?l19 ?c19 ?k19 ?a20 ?l20 ?c20 ?k20 ?a21 ?l21 ?c21 ?k21 ?a22 ?l22 ?c22 ?k22 ?a23 ?l23 ?c23 ?k23 ?a24 ?l24 ?c24 ?k24 ?a25 ?l25 ?c25 ?k25 ?a26 ?l26 ?c26 ?k26 ?a27 ?l27 ?c27 ?k27 ?a28 ?l28 ?c28 ?k28 ?a29 ?l29 ?c29 ?k29 ?g_FIGURES ?g_MOST_FIGURES ?g_PARTS ?h_PARTS ?s_PARTS ?h_PARTS_0 ?h_PARTS_1 ?h_PARTS_2 ?h_PARTS_3 ?h_PARTS_4 ?h_PARTS_5 ?h_PARTS_6 ?h_PARTS_7 ?h_PARTS_8 ?h_PARTS_9 ?h_PARTS_10 ?h_PARTS_11 ?e_NoText ?e_LaneError ?e_NotFormed ?e_Faulty ?e_exc ?e_x ?e_ga ?e_gh ?e_fc ?e_sg ?e_tk ?e_mo ?e_mb ?e_kc ?e_kV ?e_kN ?e_kF ?e_nN ?e_nF ?z_ValueError ?z_abs ?z_all ?z_bool ?z_int ?z_isinstance ?z_len ?z_list ?z_min ?z_range ?z_str ?z_tuple
  (case a0 => k_is)
  (case l0 => k_is)
  (case c0 => k_is)
  (case k0 => k_is)
  (case a1 => k_is)
  (case l1 => k_is)
  (case c1 => k_is)
  (case k1 => k_is)
  (case a2 => k_is)
  (case l2 => k_is)
  (case c2 => k_is)
  (case k2 => k_is)
  (case a3 => k_is)
  (case l3 => k_is)
  (case c3 => k_is)
  (case k3 => k_is)
  (case a4 => k_is)
  (case l4 => k_is)
  (case c4 => k_is)
  (case k4 => k_is)
  (case a5 => k_is)
  (case l5 => k_is)
  (case c5 => k_is)
  (case k5 => k_is)
  (case a6 => k_is)
  (case l6 => k_is)
  (case c6 => k_is)
  (case k6 => k_is)
  (case a7 => k_is)
  (case l7 => k_is)
  (case c7 => k_is)
  (case k7 => k_is)
  (case a8 => k_is)
  (case l8 => k_is)
  (case c8 => k_is)
  (case k8 => k_is)
  (case a9 => k_is)
  (case l9 => k_is)
  (case c9 => k_is)
  (case k9 => k_is)
  (case a10 => k_is)
  (case l10 => k_is)
  (case c10 => k_is)
  (case k10 => k_is)
  (case a11 => k_is)
  (case l11 => k_is)
  (case c11 => k_is)
  (case k11 => k_is)
  (case a12 => k_is)
  (case l12 => k_is)
  (case c12 => k_is)
  (case k12 => k_is)
  (case a13 => k_is)
  (case l13 => k_is)
  (case c13 => k_is)
  (case k13 => k_is)
  (case a14 => k_is)
  (case l14 => k_is)
  (case c14 => k_is)
  (case k14 => k_is)
  (case a15 => k_is)
  (case l15 => k_is)
  (case c15 => k_is)
  (case k15 => k_is)
  (case a16 => k_is)
  (case l16 => k_is)
  (case c16 => k_is)
  (case k16 => k_is)
  (case a17 => k_is)
  (case l17 => k_is)
  (case c17 => k_is)
  (case k17 => k_is)
  (case a18 => k_is)
  (case l18 => k_is)
  (case c18 => k_is)
  (case k18 => k_is)
  (case a19 => k_is)
  (case l19 => k_is)
  (case c19 => k_is)
  (case k19 => k_is)
  (case a20 => k_is)
  (case l20 => k_is)
  (case c20 => k_is)
  (case k20 => k_is)
  (case a21 => k_is)
  (case l21 => k_is)
  (case c21 => k_is)
  (case k21 => k_is)
  (case a22 => k_is)
  (case l22 => k_is)
  (case c22 => k_is)
  (case k22 => k_is)
  (case a23 => k_is)
  (case l23 => k_is)
  (case c23 => k_is)
  (case k23 => k_is)
  (case a24 => k_is)
  (case l24 => k_is)
  (case c24 => k_is)
  (case k24 => k_is)
  (case a25 => k_is)
  (case l25 => k_is)
  (case c25 => k_is)
  (case k25 => k_is)
  (case a26 => k_is)
  (case l26 => k_is)
  (case c26 => k_is)
  (case k26 => k_is)
  (case a27 => k_is)
  (case l27 => k_is)
  (case c27 => k_is)
  (case k27 => k_is)
  (case a28 => k_is)
  (case l28 => k_is)
  (case c28 => k_is)
  (case k28 => k_is)
  (case a29 => k_is)
  (case l29 => k_is)
  (case c29 => k_is)
  (case k29 => k_is)
  (case g_FIGURES => k_is)
  (case g_MOST_FIGURES => k_is)
  (case g_PARTS => k_is)
  (case h_PARTS => k_is)
  (case s_PARTS => first | rfl | decide)
  (case h_PARTS_0 => k_is)
  (case h_PARTS_1 => k_is)
  (case h_PARTS_2 => k_is)
  (case h_PARTS_3 => k_is)
  (case h_PARTS_4 => k_is)
  (case h_PARTS_5 => k_is)
  (case h_PARTS_6 => k_is)
  (case h_PARTS_7 => k_is)
  (case h_PARTS_8 => k_is)
  (case h_PARTS_9 => k_is)
  (case h_PARTS_10 => k_is)
  (case h_PARTS_11 => k_is)
  (case e_NoText => first | k_is | rfl)
  (case e_LaneError => first | k_is | rfl)
  (case e_NotFormed => first | k_is | rfl)
  (case e_Faulty => first | k_is | rfl)
  (case e_exc => (unfold L2.bmVE; k_exc))
  (case e_x => first | k_is | rfl)
  (case e_ga => first | k_is | rfl)
  (case e_gh => first | k_is | rfl)
  (case e_fc => first | k_is | rfl)
  (case e_sg => first | k_is | rfl)
  (case e_tk => first | k_is | rfl)
  (case e_mo => first | k_is | rfl)
  (case e_mb => first | k_is | rfl)
  (case e_kc => first | k_is | rfl)
  (case e_kV => first | k_is | rfl)
  (case e_kN => first | k_is | rfl)
  (case e_kF => first | k_is | rfl)
  (case e_nN => first | k_is | rfl)
  (case e_nF => first | k_is | rfl)
  (case z_ValueError => k_is)
  (case z_abs => k_is)
  (case z_all => k_is)
  (case z_bool => k_is)
  (case z_int => k_is)
  (case z_isinstance => k_is)
  (case z_len => k_is)
  (case z_list => k_is)
  (case z_min => k_is)
  (case z_range => k_is)
  (case z_str => k_is)
  (case z_tuple => k_is)
