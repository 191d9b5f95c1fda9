import PyProof.Rows.All
import Wide.All
import OpenK.AllK
import Wide.FinOn
import Lean
import PyProof.EqAt
import PyProof.EqKinds
import PyProof.TupleCall
import PyProof.NeKinds
import KE.KDictSum
import PyProof.Rows.SortRuns
import PySem.SetOps
import PyProof.Rows.SetFrom
import PyProof.DictWalks
import PyProof.FactsAll.set_1
import PyProof.FactsAll.set_2
import PyProof.MakeMany
import PyProof.CollectWalk
import PyProof.Rows.SortShell
import PyProof.StrWalks
import PyProof.StrLoop
import PyProof.SliceStr2
import PyProof.StrBlockI
import PyProof.Rows.StrWeight2
import PyProof.StrOps2
import PyProof.ConsumeWalk
import PyProof.ZipIter
import KE.KIntText
import PyProof.StrBlockG
import PyProof.StrLawsTight
import PyProof.StrLawsChain
import KE.IntTextLaws
import PyProof.Rows.CatFin
import PyProof.TupleIter
import PyProof.Draws
import KE.KUnpack
import PySem.Challenge.RW_midlanes_k17_whole_formed_goes_on
set_option Elab.async false
set_option linter.all false
set_option maxRecDepth 100000
set_option maxHeartbeats 4000000
section
namespace L2
open PySem PySem.Spec PyProof.Rows
noncomputable abbrev Key := Sum Int Str
noncomputable def Zgh : Key -> Value -> Bool
 | .inl k, v => Value.isInt k v
 | .inr x, v => Value.isStrOf x v
noncomputable def keyH (w : World) : Key -> Int
 | .inl k => hashInt k
 | .inr x => hashStr w x
theorem Zbp : ∀ {k : Key} {v : Value}, Zgh k v = true -> (∃ i t, k = Sum.inl i /\ v = Value.int i t) \/ (∃ x t, k = Sum.inr x /\ v = Value.str x t)
  | .inl i, v, h => by
    obtain ⟨t, e⟩ := Value.isInt_shape (k := i) (v := v) h
    exact .inl ⟨i, t, rfl, e⟩
  | .inr x, v, h => by
    obtain ⟨t, e⟩ := Value.isStrOf_shape (x := x) (v := v) h
    exact .inr ⟨x, t, rfl, e⟩
theorem Zi5 (i : Int) (t : Tok) : Zgh (.inl i) (.int i t) = true := by simp [Zgh, Value.isInt]
theorem Zi4 (x : Str) (t : Tok) : Zgh (.inr x) (.str x t) = true := by simp [Zgh, Value.isStrOf]
theorem key_ll (a b : Int) : decide ((Sum.inl a : Key) = Sum.inl b) = (a == b) := by
 by_cases e : a = b
 ·subst e; simp
 ·have h : ¬ (Sum.inl a : Key) = Sum.inl b := fun q => e (Sum.inl.inj q)
  rw [decide_eq_false h]
  exact (beq_eq_false_iff_ne.mpr e).symm
theorem key_rr (a b : Str) : decide ((Sum.inr a : Key) = Sum.inr b) = decide (a = b) := by
 by_cases e : a = b
 ·subst e; simp
 ·have h : ¬ (Sum.inr a : Key) = Sum.inr b := fun q => e (Sum.inr.inj q)
  rw [decide_eq_false h, decide_eq_false e]
theorem key_lr (a : Int) (b : Str) : decide ((Sum.inl a : Key) = Sum.inr b) = false := decide_eq_false (fun q => nomatch q)
theorem key_rl (a : Str) (b : Int) : decide ((Sum.inr a : Key) = Sum.inl b) = false := decide_eq_false (fun q => nomatch q)
noncomputable def Zbo (prog : Program) (w : World) : PySem.KeyKind prog w Key where
 is := Zgh
 hash := keyH w
 inj := fun v a b ha hb => by
  rcases Zbp ha with ⟨i, t, rfl, rfl⟩ | ⟨x, t, rfl, rfl⟩
  ·rcases Zbp hb with ⟨j, u, rfl, e⟩ | ⟨y, u, rfl, e⟩
   ·injection e with e1 _; rw [e1]
   ·exact nomatch e
  ·rcases Zbp hb with ⟨j, u, rfl, e⟩ | ⟨y, u, rfl, e⟩
   ·exact nomatch e
   ·injection e with e1 _; rw [e1]
 byValue := fun k v h => by
  rcases Zbp h with ⟨i, t, rfl, rfl⟩ | ⟨x, t, rfl, rfl⟩ <;> rfl
 pyHash := fun hv h => by
  rcases Zbp hv with ⟨i, t, rfl, rfl⟩ | ⟨x, t, rfl, rfl⟩
  ·exact wpAny_pyHash_int h
  ·exact wpAny_pyHash_str h
 eqBool := fun hu hv h => by
  rcases Zbp hu with ⟨i, t, rfl, rfl⟩ | ⟨x, t, rfl, rfl⟩
  ·rcases Zbp hv with ⟨j, u, rfl, rfl⟩ | ⟨y, u, rfl, rfl⟩
   ·rw [key_ll] at h; exact wpAny_eqBool_int h
   ·rw [key_lr] at h; exact SeqAt.EqAt.int_str i t y u _ _ _ _ h
  ·rcases Zbp hv with ⟨j, u, rfl, rfl⟩ | ⟨y, u, rfl, rfl⟩
   ·rw [key_rl] at h; exact SeqAt.EqAt.str_int x t j u _ _ _ _ h
   ·rw [key_rr] at h; exact wpAny_eqBool_str h
 «strs» := fun k x t v h => by
  rcases Zbp h with ⟨i, u, rfl, e⟩ | ⟨y, u, rfl, e⟩
  ·exact nomatch e
  ·injection e with e1 _
   subst e1
   cases v <;> rfl
theorem Zgd (prog : Program) (w : World) (i : Int) (t : Tok) : (Zbo prog w).is (.inl i) (.int i t) = true := Zi5 i t
theorem ZcW (prog : Program) (w : World) (x : Str) (t : Tok) : (Zbo prog w).is (.inr x) (.str x t) = true := Zi4 x t
end L2
namespace L2
open PySem PySem.Spec PyProof.Rows
inductive V where
 | non | bl (b : Bool) | int (i : Int) | str (x : Str) | byt (b : Array UInt8) | flt (b : UInt64) | ref (a : Addr) | ty (n : String)
 deriving DecidableEq
noncomputable def RelV : V -> Value -> Prop
 | .non, u => u = Value.none
 | .bl b, u => u = Value.bool b
 | .int i, u => ∃ t, u = Value.int i t
 | .str x, u => ∃ t, u = Value.str x t
 | .byt b, u => ∃ t, u = Value.bytes b t
 | .flt b, u => ∃ t, u = Value.float b t
 | .ref a, u => u = Value.ref a
 | .ty n, u => u = Value.type n
noncomputable abbrev Vals : List V -> List Value -> Prop := Paired RelV
theorem Vals.length {xs : List V} {us : List Value} (r : Vals xs us) : xs.length = us.length := Paired.length r
theorem Vals.get : ∀ {xs : List V} {us : List Value} {i : Nat} {x : V}, Vals xs us -> xs[i]? = some x -> ∃ u, us[i]? = some u /\ RelV x u
  | _, _, _, _, .nil, e => by simp at e
  | _, _, 0, _, .cons r _, e => by simp at e; subst e; exact ⟨_, rfl, r⟩
  | _, _, i + 1, x, .cons _ t, e => by
    obtain ⟨u, h1, h2⟩ := Vals.get (i := i) (x := x) t (by simpa using e)
    exact ⟨u, by simpa using h1, h2⟩
theorem Vals.set {x : V} {u : Value} (r : RelV x u) : ∀ {xs : List V} {us : List Value} (i : Nat), Vals xs us -> Vals (xs.set i x) (us.set i u)
 | _, _, _, .nil => .nil
 | _, _, 0, .cons _ t => .cons r t
 | _, _, i + 1, .cons q t => .cons q (Vals.set r i t)
theorem Vals.append {xs ys : List V} {us ws : List Value} (h : Vals xs us) (s : Vals ys ws) : Vals (xs ++ ys) (us ++ ws) := by
 induction h with
 | nil => exact s
 | cons r _ ih => exact .cons r ih
theorem Vals.take : ∀ {xs : List V} {us : List Value} (n : Nat), Vals xs us -> Vals (xs.take n) (us.take n)
 | _, _, 0, _ => .nil
 | _, _, _ + 1, .nil => .nil
 | _, _, n + 1, .cons r t => .cons r (Vals.take n t)
theorem Vals.drop : ∀ {xs : List V} {us : List Value} (n : Nat), Vals xs us -> Vals (xs.drop n) (us.drop n)
 | _, _, 0, r => r
 | _, _, _ + 1, .nil => .nil
 | _, _, n + 1, .cons _ t => Vals.drop n t
noncomputable def RelO : Option V -> Option Value -> Prop
 | some v, some u => RelV v u
 | none, none => True
 | _, _ => False
noncomputable def KV {κ : Type} : List (κ × V) -> List (κ × Value) -> Prop := Paired fun (p : κ × V) (q : κ × Value) => p.1 = q.1 /\ RelV p.2 q.2
noncomputable def kV : Key -> V
 | .inl i => .int i
 | .inr x => .str x
inductive HO where
 | lst (xs : List V)
 | tup (xs : List V)
 | dK (kvs : List (Key × V)) | dT (kvs : List (List Key × V))
 | set (S : Int -> Bool) (n : Nat)
 | ins (C dx : Addr) (fs : List (Str × V))
 | own (x : Addr)
 | xd (fs : List (Str × V))
 | met (f x : Addr)
 | rng (lo hi : Int)
 | frz (o : Obj) (u : HO)
 | tbl (ps : Array Value)
 | ext (φ : Heap -> Prop)
noncomputable abbrev Hp := Addr -> Option HO
noncomputable def upd (H : Hp) (a : Addr) (o : HO) : Hp := fun b => if b = a then some o else H b
theorem Zac {H : Hp} {a : Addr} {o : HO} : upd H a o a = some o := by unfold upd; rw [if_pos rfl]
theorem ZaH {H : Hp} {a b : Addr} {o : HO} (h : b ≠ a) : upd H a o b = H b := by unfold upd; rw [if_neg h]
theorem ZfZ {H : Hp} {a : Addr} {o u : HO} : upd (upd H a o) a u = upd H a u := by
 funext b; unfold upd; split <;> rfl
theorem Zmq {H : Hp} {a b : Addr} {o u : HO} (h : H a = some o) (h' : H b = some u) (d : o ≠ u) : a ≠ b := by
 intro e; subst e; rw [h] at h'; exact d (Option.some.inj h')
theorem Zba {H : Hp} {a b : Addr} {o : HO} (h : H a = some o) (h' : H b = none) : a ≠ b := by
 intro e; subst e; rw [h] at h'; cases h'
section
variable (P : Program) (w : World)
noncomputable def ObjOk (H : Hp) (h : Heap) (a : Addr) : HO -> Prop
 | .lst xs => xs.length <= sizeLine /\ ∃ (its : List Value) (n : Nat), Vals xs its /\ h.get? a = some { cls := .type "list", data := .seq its.toArray n }
 | .tup xs => xs.length <= sizeLine /\ ∃ its : List Value, Vals xs its /\ IsTup h a its.toArray
 | .dK kvs => kvs.length <= sizeLine /\ (a == sysModules) = false /\ ∃ vs, KV kvs vs /\ h.DictOf (Zbo P w) a vs
 | .dT kvs => kvs.length <= sizeLine /\ (a == sysModules) = false /\ ∃ xs : List (List Key × Addr × Value),
   Paired (fun (p : List Key × V) (q : List Key × Addr × Value) => p.1 = q.1 /\ H q.2.1 = some (.tup (p.1.map kV)) /\ RelV p.2 q.2.2) kvs xs /\
   ∃ o es ep, h.get? a = some o /\ o.ExactDict /\ o.data = .dict es ep /\ es.toList = xs.map (entryOfKey (tupleKind (Zbo P w))) /\ (xs.map (·.1)).Nodup
 | .set S n => h.SetOf (intKind P w) a S n
 | .ins C dx fs => H dx = some (.own a) /\ fs.length <= 1000 /\ dx ≠ a /\ h.get? a = some (PySem.W.instObj C dx) /\
   ∃ mA, h.Ns1 dx mA /\ (∀ f, RelO (fs.lookup f) (mA f)) /\ PySem.Within mA (fs.map (·.1))
 | .own _ => ∃ o, h.get? a = some o
 | .xd fs => ∃ mA, h.Ns1 a mA /\ ∀ f, RelO (fs.lookup f) (mA f)
 | .rng lo hi => ∃ t u v, h.get? a = some { cls := .type "range", data := .fields #[.int lo t, .int hi u, .int 1 v] }
 | .frz o u => h.get? a = some o /\ ObjOk H h a u
 | .tbl ps => h.get? a = some { cls := .none, data := .fields ps }
 | .met f x => h.get? a = some (PySem.W.methodObj (.ref f) (.ref x))
 | .ext φ => φ h /\ (∃ o, h.get? a = some o) /\ ∀ h1 h2 : Heap, φ h1 -> (∀ o, h1.get? a = some o -> h2.get? a = some o) -> φ h2
noncomputable def HOk (H : Hp) (h : Heap) : Prop := ∀ a o, H a = some o -> ObjOk P w H h a o
end
section
variable {P : Program} {w : World} {H H' : Hp} {h h' : Heap} {a : Addr} {o : HO}
theorem ObjOk.lt (x : ObjOk P w H h a o) : a < h.objs.size := by
 cases o with
 | lst xs => obtain ⟨_, _, _, _, e⟩ := x; exact Heap.lt_size e
 | tup xs => obtain ⟨_, _, _, p⟩ := x; exact p.lt
 | dK kvs => obtain ⟨_, _, _, _, o, _, _, e, _⟩ := x; exact Heap.lt_size e
 | dT kvs => obtain ⟨_, _, _, _, o, _, _, e, _⟩ := x; exact Heap.lt_size e
 | set S n => obtain ⟨o, _, _, _, e, _⟩ := x; exact Heap.lt_size e
 | ins C dx fs => obtain ⟨_, _, _, e, _⟩ := x; exact Heap.lt_size e
 | own y => obtain ⟨_, e⟩ := x; exact Heap.lt_size e
 | xd fs => obtain ⟨_, ⟨_, _, _, e, _⟩, _⟩ := x; exact Heap.lt_size e
 | rng lo hi => obtain ⟨_, _, _, e⟩ := x; exact Heap.lt_size e
 | frz ob u => obtain ⟨e, _⟩ := x; exact Heap.lt_size e
 | tbl ps => exact Heap.lt_size (show h.get? a = some _ from x)
 | met f y => exact Heap.lt_size (show h.get? a = some _ from x)
 | ext φ => obtain ⟨_, ⟨_, e⟩, _⟩ := x; exact Heap.lt_size e
theorem Paired.mapP {α β : Type} {F G : α -> β -> Prop} {l₁ : List α} {l₂ : List β} (h : Paired F l₁ l₂) (f : ∀ a b, F a b -> G a b) : Paired G l₁ l₂ := by
 induction h with
 | nil => exact .nil
 | cons r _ ih => exact .cons (f _ _ r) ih
theorem ObjOk.stay (x : ObjOk P w H h a o) (k : ∀ b u, (b = a \/ H b = some (.own a)) -> h.get? b = some u -> h'.get? b = some u)
    (ho : ∀ b, H b = some (.own a) -> H' b = some (.own a)) (ht : ∀ b xs, H b = some (.tup xs) -> H' b = some (.tup xs)) : ObjOk P w H' h' a o := by
  induction o with
  | lst xs => obtain ⟨z, its, n, r, e⟩ := x; exact ⟨z, its, n, r, k _ _ (.inl rfl) e⟩
  | tup xs => obtain ⟨z, its, r, ob, e, c⟩ := x; exact ⟨z, its, r, ob, k _ _ (.inl rfl) e, c⟩
  | dK kvs => obtain ⟨z, y, vs, r, ob, es, ep, e, c⟩ := x; exact ⟨z, y, vs, r, ob, es, ep, k _ _ (.inl rfl) e, c⟩
  | dT kvs =>
    obtain ⟨z, y, xs, r, ob, es, ep, e, c⟩ := x
    exact ⟨z, y, xs, Paired.mapP r fun p q z => ⟨z.1, ht _ _ z.2.1, z.2.2⟩, ob, es, ep, k _ _ (.inl rfl) e, c⟩
  | set S n => obtain ⟨ob, es, ep, t, e, c⟩ := x; exact ⟨ob, es, ep, t, k _ _ (.inl rfl) e, c⟩
  | ins C dx fs =>
    obtain ⟨d, z, ne, e, mA, ⟨od, es, ep, e2, c⟩, r⟩ := x
    exact ⟨ho _ d, z, ne, k _ _ (.inl rfl) e, mA, ⟨od, es, ep, k _ _ (.inr d) e2, c⟩, r⟩
  | own y => obtain ⟨ob, e⟩ := x; exact ⟨ob, k _ _ (.inl rfl) e⟩
  | xd fs => obtain ⟨mA, ⟨od, es, ep, e, c⟩, r⟩ := x; exact ⟨mA, ⟨od, es, ep, k _ _ (.inl rfl) e, c⟩, r⟩
  | rng lo hi => obtain ⟨t, u, v, e⟩ := x; exact ⟨t, u, v, k _ _ (.inl rfl) e⟩
  | frz ob u ih => obtain ⟨e, q⟩ := x; exact ⟨k _ _ (.inl rfl) e, ih q⟩
  | tbl ps =>
    have e : h.get? a = some { cls := .none, data := .fields ps } := x
    show h'.get? a = some { cls := .none, data := .fields ps }
    exact k a _ (.inl rfl) e
  | met f y =>
    have e : h.get? a = some (PySem.W.methodObj (.ref f) (.ref y)) := x
    show h'.get? a = some (PySem.W.methodObj (.ref f) (.ref y))
    exact k a _ (.inl rfl) e
  | ext φ => obtain ⟨p, ⟨o, e⟩, st⟩ := x; exact ⟨st _ _ p fun o q => k _ _ (.inl rfl) q, ⟨o, k _ _ (.inl rfl) e⟩, st⟩
theorem HOk.lt (x : HOk P w H h) (e : H a = some o) : a < h.objs.size := (x a o e).lt
theorem HOk.fresh (x : HOk P w H h) (e : h.objs.size <= a) : H a = none := by
 cases q : H a with
 | none => rfl
 | some u => exact absurd (Nat.lt_of_lt_of_le (x.lt q) e) (Nat.lt_irrefl _)
theorem HOk.kept (x : HOk P w H h) (k : ∀ b u, h.get? b = some u -> h'.get? b = some u) : HOk P w H h' := fun a o e =>
 (x a o e).stay (fun b u _ q => k b u q) (fun _ q => q) fun _ _ q => q
theorem HOk.laid (x : HOk P w H h) (k : ∀ b u, h.get? b = some u -> h'.get? b = some u) (hp : h.objs.size <= a) (new : ObjOk P w (upd H a o) h' a o) : HOk P w (upd H a o) h' := fun b u e => by
 have hn := x.fresh hp
 by_cases hb : b = a
 ·subst hb; rw [Zac] at e; cases e; exact new
 ·rw [ZaH hb] at e
  exact (x b u e).stay (fun c v _ q => k c v q) (fun c q => by rw [ZaH (Zba q hn)]; exact q) fun c xs q => by rw [ZaH (Zba q hn)]; exact q
end
noncomputable def Rd (H : Hp) (a : Addr) (u : HO) : Prop := H a = some u \/ ∃ o, H a = some (.frz o u)
theorem Rd.ok {P : Program} {w : World} {H : Hp} {h : Heap} {a : Addr} {u : HO} (r : Rd H a u) (x : HOk P w H h) : ObjOk P w H h a u := by
 rcases r with r | ⟨o, r⟩
 ·exact x a u r
 ·obtain ⟨_, q⟩ := x a _ r
  exact q
noncomputable def Mut : Option HO -> Prop
 | some (.lst _) => True
 | some (.dK _) => True
 | some (.dT _) => True
 | some (.set _ _) => True
 | some (.ins _ _ _) => True
 | some (.ext _) => True
 | _ => False
section
variable {P : Program} {w : World} {H : Hp} {h h' : Heap} {x e : Addr} {o' : HO}
theorem HOk.write (ok : HOk P w H h) (mu : Mut (H x)) (he : e = x \/ H e = some (.own x)) (k : ∀ b u, b ≠ e -> h.get? b = some u -> h'.get? b = some u) (heo : ∃ u, h'.get? e = some u)
  (new : ObjOk P w (upd H x o') h' x o') : HOk P w (upd H x o') h' := fun b u q => by
 have nown : ∀ c y, H c = some (.own y) -> c ≠ x := fun c y r z => by subst z; rw [r] at mu; exact mu
 have ntup : ∀ c xs, H c = some (.tup xs) -> c ≠ x := fun c xs r z => by subst z; rw [r] at mu; exact mu
 by_cases hb : b = x
 ·subst hb; rw [Zac] at q; cases q; exact new
 ·rw [ZaH hb] at q
  by_cases hbe : b = e
  ·have q' : H b = some (.own x) := by
    rcases he with z | z
    ·exact absurd (hbe.trans z) hb
    ·rw [hbe]; exact z
   rw [q] at q'; cases q'
   obtain ⟨v, hv⟩ := heo
   exact ⟨v, by rw [hbe]; exact hv⟩
  ·refine (ok b u q).stay (fun c v hc r => k c v ?_ r) (fun c r => by rw [ZaH (nown c b r)]; exact r) fun c xs r => by rw [ZaH (ntup c xs r)]; exact r
   rcases hc with rfl | hc
   ·exact hbe
   ·rintro rfl
    rcases he with z | z
    ·exact nown c b hc z
    ·rw [hc] at z; cases z; exact hb rfl
end
structure Un (fs ex : List Addr) (H H' : Hp) (h h' : Heap) : Prop where
 keep : ∀ b o, h.get? b = some o -> H b = none -> b ∉ fs -> b ∉ ex -> h'.get? b = some o
 slot : ∀ b o, h.get? b = some o -> H b = none -> b ∈ fs -> b ∉ ex -> ∃ sl, h'.get? b = some { o with slots := sl }
 free : ∀ b o, h.get? b = some o -> H b = none -> b ∉ ex -> H' b = none
 there : ∀ b o, h.get? b = some o -> b ∉ ex -> ∃ o', h'.get? b = some o'
 tups : ∀ b xs, H b = some (.tup xs) -> H' b = some (.tup xs)
 frzs : ∀ b o u, H b = some (.frz o u) -> H' b = some (.frz o u)
 tbls : ∀ b ps, H b = some (.tbl ps) -> ∃ more, H' b = some (.tbl (ps ++ more))
section
variable {fs fs' ex ex' : List Addr} {H H1 H2 : Hp} {h h1 h2 h' : Heap} {a x e : Addr} {o : HO}
theorem Un.any (u : Un fs ex H H1 h h1) {b : Addr} {ob : Obj} (q : h.get? b = some ob) (n : H b = none) (hx : b ∉ ex) : ∃ sl, h1.get? b = some { ob with slots := sl } := by
 by_cases hb : b ∈ fs
 ·exact u.slot b ob q n hb hx
 ·exact ⟨ob.slots, u.keep b ob q n hb hx⟩
theorem Un.kept (k : ∀ b u, h.get? b = some u -> h'.get? b = some u) : Un fs ex H H h h' :=
 ⟨fun b ob q _ _ _ => k b ob q, fun b ob q _ _ _ => ⟨ob.slots, k b ob q⟩, fun _ _ _ n _ => n, fun b ob q _ => ⟨ob, k b ob q⟩, fun _ _ q => q, fun _ _ _ q => q, fun _ ps q => ⟨#[], by rw [q]; simp⟩⟩
theorem Un.refl : Un fs ex H H h h := Un.kept fun _ _ q => q
theorem Un.laid (k : ∀ b u, h.get? b = some u -> h'.get? b = some u) (hp : h.objs.size <= a) (hn : H a = none) : Un fs ex H (upd H a o) h h' where
 keep := fun b u q _ _ _ => k b u q
 slot := fun b u q _ _ _ => ⟨u.slots, k b u q⟩
 free := fun b u q n _ => by rw [ZaH (Nat.ne_of_lt (Nat.lt_of_lt_of_le (Heap.lt_size q) hp))]; exact n
 there := fun b u q _ => ⟨u, k b u q⟩
 tups := fun b xs q => by rw [ZaH (Zba q hn)]; exact q
 frzs := fun b u xs q => by rw [ZaH (Zba q hn)]; exact q
 tbls := fun b ps q => ⟨#[], by rw [ZaH (Zba q hn), q]; simp⟩
theorem Un.write (mu : Mut (H x)) (he : e = x \/ H e = some (.own x)) (k : ∀ b u, b ≠ e -> h.get? b = some u -> h'.get? b = some u) (heo : ∃ u, h'.get? e = some u) : Un fs ex H (upd H x o) h h' := by
 have hx : ∀ b, H b = none -> b ≠ x := fun b n z => by subst z; rw [n] at mu; exact mu
 have hb : ∀ b, H b = none -> b ≠ e := fun b n z => by
  subst z
  rcases he with r | r
  ·exact hx b n r
  ·rw [n] at r; cases r
 have hm : ∀ b u, H b = some u -> ¬ Mut (some u) -> b ≠ x := fun b u q nm z => by subst z; rw [q] at mu; exact nm mu
 refine ⟨fun b u q n _ _ => k b u (hb b n) q, fun b u q n _ _ => ⟨u.slots, k b u (hb b n) q⟩, fun b u q n _ => by rw [ZaH (hx b n)]; exact n, fun b u q _ => ?_,
  fun b xs q => by rw [ZaH (hm b _ q fun z => z)]; exact q, fun b u xs q => by rw [ZaH (hm b _ q fun z => z)]; exact q, fun b ps q => ⟨#[], by rw [ZaH (hm b _ q fun z => z), q]; simp⟩⟩
 by_cases hbe : b = e
 ·subst hbe; exact heo
 ·exact ⟨u, k b u hbe q⟩
end
noncomputable def trk (h : Heap) (H : Hp) : List Addr := (List.range h.objs.size).filter fun a => (H a).isSome
noncomputable def hidT (h : Heap) (H : Hp) : Heap := PySem.W.hideAll h (trk h H)
theorem Zjg (h : Heap) (H : Hp) : (hidT h H).objs.size = h.objs.size := PySem.W.hideAll_size _ _
theorem ZkG {h : Heap} {H : Hp} {b : Addr} {o : Obj} (e : h.get? b = some o) (n : H b = none) : (hidT h H).get? b = some o :=
 PySem.W.hideAll_get _ e fun hm => by
  have q : (H b).isSome = true := (List.mem_filter.mp hm).2
  rw [n] at q; simp at q
theorem Zmn {h : Heap} {H : Hp} {b : Addr} {o : Obj} (e : (hidT h H).get? b = some o) : h.get? b = some o /\ H b = none := by
  have e' : h.get? b = some o := PySem.W.of_hideAll (trk h H) e
  refine ⟨e', ?_⟩
  cases q : H b with
  | none => rfl
  | some x =>
    have hm : b ∈ trk h H := List.mem_filter.mpr ⟨List.mem_range.mpr (Heap.lt_size e'), by simp [q]⟩
    have z : (hidT h H).get? b = none := PySem.W.hideAll_none (trk h H) hm
    rw [z] at e; cases e
noncomputable def ZmT (g h : Heap) (L : Addr) : List (Addr × Obj) := (List.range h.objs.size).filterMap fun a => if a = L \/ (g.get? a).isSome = true then none else (h.get? a).map fun o => (a, o)
noncomputable def rest (g h : Heap) (L d : Addr) : List (Addr × Obj) := (ZmT g h L).filter fun p => decide (p.1 ≠ d)
end L2
namespace L2
open PySem PySem.Spec PyProof.Rows
structure Mod (K : PySem.W.Frag) (mg : Str -> Option Value) (base : Heap) : Prop where
 kin : K.In base
 glob : base.Ns mainGlobals mg
 blt : ∃ mb, base.Ns builtinsNs mb /\ ∀ x : Str, x ≠ "__name__" -> mb x = bootBuiltins x
 nolimit : base.NoLimit
structure Cx where
 prog : Program
 w : World
 K : PySem.W.Frag
 mg : Str -> Option Value
 base : Heap
 A : Around
 N : List Str
 s₀ : Shared
 H₀ : Hp
 env : Env
 outer : List Env
 stack : List Env
 ex : List Addr
 fn : Str -> Bool
 calm : Bool
 pn : List (Addr × Obj)
 xe : Value -> Shared -> Prop
noncomputable def frs (l : List Env) : List Addr := l.filterMap (·.frame)
noncomputable abbrev Cx.fs (X : Cx) : List Addr := frs X.outer
noncomputable def Vis (sc : Scope) (x : Str) : Prop := sc.names.lookup x = some .local \/ sc.names.lookup x = some .cell \/ sc.names.lookup x = some .free
noncomputable def Loc (sc : Scope) (x : Str) : Prop := sc.names.lookup x = some .local \/ sc.names.lookup x = some .cell
noncomputable def Look (env : Env) (h : Heap) (m : Str -> Option Value) (x : Str) (u : Value) : Prop :=
 (env.kindOf x = some .local /\ m x = some u) \/ ((env.kindOf x = some .cell \/ env.kindOf x = some .free) /\ ∃ c, env.cells.lookup x = some c /\ h.IsCell c (some u))
structure Cx.Ok (X : Cx) : Prop where
 mod : Mod X.K X.mg X.base
 kind : X.env.scope.kind = .function
 glob : X.env.globals = mainGlobals
 blt : X.env.builtins = builtinsNs
 above : X.s₀.heap.objs.size <= X.env.locals
 inj : ∀ x y c, X.env.cells.lookup x = some c -> X.env.cells.lookup y = some c -> x = y
 has : ∀ x, (X.env.kindOf x = some .cell \/ X.env.kindOf x = some .free) -> ∃ c, X.env.cells.lookup x = some c
 cab : ∀ x c, X.fn x = true -> X.env.cells.lookup x = some c -> X.s₀.heap.objs.size <= c
 hd : X.calm = true -> X.A.handled = none
 frames : X.A.frames = some X.stack
 stk : X.stack = X.outer \/ (X.stack = X.env :: X.outer /\ X.env.frame = some X.env.locals)
 exf : ∀ b ∈ X.ex, b ≠ X.env.locals /\ ∀ x c, X.env.cells.lookup x = some c -> c ≠ b
 bs : ∀ b o, X.base.get? b = some o -> X.s₀.heap.get? b = some o /\ X.H₀ b = none
 bsz : X.base.objs.size <= X.s₀.heap.objs.size
 noex : ∀ b o, X.base.get? b = some o -> b ∉ X.ex
 exfs : ∀ b ∈ X.ex, b ∉ X.fs
 funs : X.s₀.heap.FunFrames X.base X.outer
 frf : ∀ b ∈ X.fs, X.H₀ b = none
structure Inv (X : Cx) (pins : List (Addr × Obj)) (σ : List (Option V)) (H : Hp) (s : Shared) : Prop where
 ok : X.Ok
 os : s.os = X.s₀.os
 bare : AllBare s.gens
 base : Un X.fs X.ex X.H₀ H X.s₀.heap s.heap
 loc : ∃ m, s.heap.Ns X.env.locals m /\ ∀ (i : Nat) (x : Str) (v : V), X.N[i]? = some x -> σ[i]? = some (some v) -> Vis X.env.scope x -> ∃ u, RelV v u /\ Look X.env s.heap m x u
 cell : ∀ x c, X.env.cells.lookup x = some c -> ∃ v, s.heap.IsCell c v
 free : H X.env.locals = none
 freeC : ∀ x c, X.env.cells.lookup x = some c -> H c = none
 pin : ∀ p ∈ X.pn ++ pins, s.heap.get? p.1 = some p.2 /\ H p.1 = none /\ p.1 ≠ X.env.locals /\ p.1 ∉ X.fs /\ ∀ v, p.2.data ≠ .cell v
 hok : HOk X.prog X.w H s.heap
 len : σ.length = X.N.length
section
variable {X : Cx} {pins : List (Addr × Obj)} {σ : List (Option V)} {H H' : Hp} {s : Shared} {h' : Heap}
theorem Cx.Ok.nofr (ok : X.Ok) {b : Addr} {o : Obj} (e : X.base.get? b = some o) : b ∉ X.fs := fun hb => by
 have := (ok.funs.mem hb).1
 rw [e] at this; cases this
theorem Inv.bs (I : Inv X pins σ H s) : ∀ b o, X.base.get? b = some o -> s.heap.get? b = some o /\ H b = none := fun b o e =>
 ⟨I.base.keep b o (I.ok.bs b o e).1 (I.ok.bs b o e).2 (I.ok.nofr e) (I.ok.noex b o e), I.base.free b o (I.ok.bs b o e).1 (I.ok.bs b o e).2 (I.ok.noex b o e)⟩
theorem Inv.bk (I : Inv X pins σ H s) : ∀ b o, X.base.get? b = some o -> s.heap.get? b = some o := fun b o e => (I.bs b o e).1
theorem Inv.mod (I : Inv X pins σ H s) : Mod X.K X.mg X.base := I.ok.mod
theorem Inv.kIn (I : Inv X pins σ H s) : X.K.In s.heap := I.ok.mod.kin.keeps I.bk
theorem Inv.lt (I : Inv X pins σ H s) : X.env.locals < s.heap.objs.size := let ⟨_, hn, _⟩ := I.loc; hn.lt
theorem Inv.sz (I : Inv X pins σ H s) : X.s₀.heap.objs.size <= s.heap.objs.size := Nat.le_trans I.ok.above (Nat.le_of_lt I.lt)
theorem Inv.nofs (I : Inv X pins σ H s) {a : Addr} (h : s.heap.objs.size <= a) : a ∉ X.fs := fun hb => by
 obtain ⟨_, o, ho, _⟩ := I.ok.funs.mem hb
 exact absurd (Nat.lt_of_lt_of_le (Heap.lt_size ho) (Nat.le_trans I.sz h)) (Nat.lt_irrefl _)
theorem Inv.cne (I : Inv X pins σ H s) : ∀ x c, X.env.cells.lookup x = some c -> c ≠ X.env.locals := fun x c e z => by
 obtain ⟨v, o, ho, hd⟩ := I.cell x c e
 obtain ⟨m, ⟨o', es, ep, ho', hd', _⟩, _⟩ := I.loc
 rw [z, ho'] at ho; cases ho; rw [hd'] at hd; cases hd
theorem Inv.funs (I : Inv X pins σ H s) : s.heap.FunFrames X.base X.outer := by
  have all : ∀ (l : List Env), (∀ b ∈ frs l, b ∈ X.fs) -> X.s₀.heap.FunFrames X.base l -> s.heap.FunFrames X.base l := by
    intro l
    induction l with
    | nil => intro _ _; trivial
    | cons env r ih =>
      intro hs hl
      obtain ⟨hk, ⟨L, o, hf, hn, ho, hd⟩, hr⟩ := hl
      have hL : L ∈ X.fs := hs L (by unfold frs; rw [List.filterMap_cons, hf]; exact List.mem_cons_self)
      obtain ⟨sl, e⟩ := I.base.slot L o ho (I.ok.frf L hL) hL fun z => I.ok.exfs L z hL
      exact ⟨hk, ⟨L, _, hf, hn, e, hd⟩, ih (fun b hb => hs b (by unfold frs; rw [List.filterMap_cons, hf]; exact List.mem_cons_of_mem _ hb)) hr⟩
  exact all X.outer (fun _ hb => hb) I.ok.funs
theorem Inv.stack (I : Inv X pins σ H s) : s.heap.FunFrames X.base X.stack := by
 rcases I.ok.stk with e | ⟨e, hf⟩
 ·rw [e]; exact I.funs
 ·rw [e]
  obtain ⟨m, hn, _⟩ := I.loc
  refine .cons (by rw [I.ok.kind]; decide) hf hn ?_ I.funs
  exact Heap.get?_none_of_le (Nat.le_trans I.ok.bsz I.ok.above)
theorem Inv.stkSub (I : Inv X pins σ H s) : ∀ b ∈ frs X.stack, b ∈ X.env.locals :: X.fs := fun b hb => by
 rcases I.ok.stk with e | ⟨e, hf⟩
 ·rw [e] at hb; exact List.mem_cons_of_mem _ hb
 ·rw [e] at hb
  unfold frs at hb
  rw [List.filterMap_cons, hf] at hb
  exact hb
theorem Inv.stkFree (I : Inv X pins σ H s) : ∀ b ∈ frs X.stack, H b = none := fun b hb => by
 rcases List.mem_cons.mp (I.stkSub b hb) with e | hb
 ·rw [e]; exact I.free
 ·obtain ⟨_, o, ho, _⟩ := I.ok.funs.mem hb
  exact I.base.free b o ho (I.ok.frf b hb) fun z => I.ok.exfs b z hb
theorem Inv.step {g' : Array GenState} {t' : Nat} {d' : Drawn} {ch : List Addr} (I : Inv X pins σ H s)
  (hch : ∀ b ∈ ch, (b ∈ X.ex \/ X.s₀.heap.objs.size <= b) /\ b ≠ X.env.locals /\ (∀ x c, X.env.cells.lookup x = some c -> c ≠ b) /\ ∀ p ∈ X.pn ++ pins, p.1 ≠ b)
  (keep : ∀ b o, b ≠ X.env.locals -> b ∉ X.fs -> b ∉ ch -> s.heap.get? b = some o -> H b = none -> h'.get? b = some o)
  (slot : ∀ b o, b ≠ X.env.locals -> b ∈ X.fs -> b ∉ ch -> s.heap.get? b = some o -> H b = none -> ∃ sl, h'.get? b = some { o with slots := sl }) (free : ∀ b o, b ∉ ch -> s.heap.get? b = some o -> H b = none -> H' b = none)
  (there : ∀ b o, b ∉ ch -> s.heap.get? b = some o -> ∃ o', h'.get? b = some o')
  (tups : ∀ b xs, H b = some (.tup xs) -> H' b = some (.tup xs)) (frzs : ∀ b o u, H b = some (.frz o u) -> H' b = some (.frz o u)) (tbls : ∀ b ps, H b = some (.tbl ps) -> ∃ more, H' b = some (.tbl (ps ++ more)))
  (ns : ∀ m, s.heap.Ns X.env.locals m -> h'.Ns X.env.locals m) (hok : HOk X.prog X.w H' h') (hg : AllBare g') :
  Inv X pins σ H' { s with heap := h', gens := g', drawn := d', toks := t' } := by
 have neL : ∀ b o, X.s₀.heap.get? b = some o -> b ≠ X.env.locals := fun b o e => Nat.ne_of_lt (Nat.lt_of_lt_of_le (Heap.lt_size e) I.ok.above)
 have neC : ∀ b o, X.s₀.heap.get? b = some o -> b ∉ X.ex -> b ∉ ch := fun b o e hx hb => by
  rcases (hch b hb).1 with z | z
  ·exact hx z
  ·exact absurd (Nat.lt_of_lt_of_le (Heap.lt_size e) z) (Nat.lt_irrefl _)
 have cellK : ∀ x c, X.env.cells.lookup x = some c -> ∀ v, s.heap.IsCell c v -> h'.IsCell c v := fun x c e v ⟨o, ho, hd⟩ => by
  have nch : c ∉ ch := fun z => (hch c z).2.2.1 x c e rfl
  by_cases hc : c ∈ X.fs
  ·obtain ⟨sl, q⟩ := slot c o (I.cne x c e) hc nch ho (I.freeC x c e)
   exact ⟨_, q, hd⟩
  ·exact ⟨o, keep c o (I.cne x c e) hc nch ho (I.freeC x c e), hd⟩
 refine ⟨I.ok, I.os, hg, ⟨fun b o e n hb hx => ?_, fun b o e n hb hx => ?_, fun b o e n hx => ?_, fun b o e hx => ?_, fun b xs e => tups b xs (I.base.tups b xs e), fun b o xs e => frzs b o xs (I.base.frzs b o xs e), fun b ps e => ?_⟩, ?_, fun x c e => ?_, ?_, fun x c e => ?_, fun p hp => ?_, hok, I.len⟩
 ·exact keep b o (neL b o e) hb (neC b o e hx) (I.base.keep b o e n hb hx) (I.base.free b o e n hx)
 ·obtain ⟨sl, e1⟩ := I.base.slot b o e n hb hx
  obtain ⟨sl', e2⟩ := slot b _ (neL b o e) hb (neC b o e hx) e1 (I.base.free b o e n hx)
  exact ⟨sl', e2⟩
 ·obtain ⟨o', e1⟩ := I.base.there b o e hx
  exact free b o' (neC b o e hx) e1 (I.base.free b o e n hx)
 ·obtain ⟨o', e1⟩ := I.base.there b o e hx
  exact there b o' (neC b o e hx) e1
 ·obtain ⟨m1, e1⟩ := I.base.tbls b ps e
  obtain ⟨m2, e2⟩ := tbls b _ e1
  exact ⟨m1 ++ m2, by rw [e2, Array.append_assoc]⟩
 ·obtain ⟨m, hn, hl⟩ := I.loc
  refine ⟨m, ns m hn, fun i x v e1 e2 e3 => ?_⟩
  obtain ⟨u, r, l⟩ := hl i x v e1 e2 e3
  refine ⟨u, r, ?_⟩
  rcases l with l | ⟨k, c, e, z⟩
  ·exact .inl l
  ·exact .inr ⟨k, c, e, cellK x c e _ z⟩
 ·obtain ⟨v, z⟩ := I.cell x c e
  exact ⟨v, cellK x c e v z⟩
 ·obtain ⟨m, ⟨o, _, _, ho, _⟩, _⟩ := I.loc
  exact free _ o (fun z => (hch _ z).2.1 rfl) ho I.free
 ·obtain ⟨v, o, ho, hd⟩ := I.cell x c e
  exact free c o (fun z => (hch c z).2.2.1 x c e rfl) ho (I.freeC x c e)
 ·obtain ⟨e, n, ne, nf, d⟩ := I.pin p hp
  have nch : p.1 ∉ ch := fun z => (hch p.1 z).2.2.2 p hp rfl
  exact ⟨keep p.1 p.2 ne nf nch e n, free p.1 p.2 nch e n, ne, nf, d⟩
theorem Inv.un {t' : Nat} (I : Inv X pins σ H s) (u : Un X.fs [] H H' s.heap h') (hok : HOk X.prog X.w H' h') : Inv X pins σ H' { s with heap := h', toks := t' } := by
 obtain ⟨m, ⟨o, es, ep, ho, r⟩, _⟩ := id I.loc
 obtain ⟨sl, hL⟩ := u.any ho I.free (by simp)
 exact I.step (g' := s.gens) (d' := s.drawn) (ch := []) (fun _ z => nomatch z) (fun b o _ hb _ e n => u.keep b o e n hb (by simp)) (fun b o _ hb _ e n => u.slot b o e n hb (by simp)) (fun b o _ e n => u.free b o e n (by simp)) (fun b o _ e => u.there b o e (by simp)) u.tups u.frzs u.tbls (fun m' hm => by
  obtain ⟨o', es', ep', ho', r'⟩ := hm
  rw [ho] at ho'; cases ho'
  exact ⟨_, es', ep', hL, r'⟩) hok I.bare
theorem Inv.call {g' : Array GenState} {t' : Nat} {d' : Drawn} {ch : List Addr} (I : Inv X pins σ H s) (u : Un (frs X.stack) ch H H' s.heap h') (hok : HOk X.prog X.w H' h') (hg : AllBare g')
  (hch : ∀ b ∈ ch, (b ∈ X.ex \/ X.s₀.heap.objs.size <= b) /\ b ≠ X.env.locals /\ (∀ x c, X.env.cells.lookup x = some c -> c ≠ b) /\ ∀ p ∈ X.pn ++ pins, p.1 ≠ b) :
  Inv X pins σ H' { s with heap := h', gens := g', drawn := d', toks := t' } := by
 obtain ⟨m, ⟨o, es, ep, ho, r⟩, _⟩ := id I.loc
 obtain ⟨sl, hL⟩ := u.any ho I.free fun z => (hch _ z).2.1 rfl
 exact I.step (ch := ch) hch (fun b o hL hb hc e n => u.keep b o e n (fun z => (List.mem_cons.mp (I.stkSub b z)).elim hL hb) hc) (fun b o _ _ hc e n => u.any e n hc) (fun b o hc e n => u.free b o e n hc) (fun b o hc e => u.there b o e hc) u.tups u.frzs u.tbls (fun m' hm => by
  obtain ⟨o', es', ep', ho', r'⟩ := hm
  rw [ho] at ho'; cases ho'
  exact ⟨_, es', ep', hL, r'⟩) hok hg
theorem Inv.turned {t' : Nat} {it : Addr} (I : Inv X pins σ H s) (k : ∀ b o, b ≠ it -> s.heap.get? b = some o -> h'.get? b = some o) (hn : H it = none) (hL : it ≠ X.env.locals)
  (h1 : it ∈ X.ex \/ X.s₀.heap.objs.size <= it) (h2 : ∀ x c, X.env.cells.lookup x = some c -> c ≠ it) (h3 : ∀ p ∈ X.pn ++ pins, p.1 ≠ it) : Inv X pins σ H { s with heap := h', toks := t' } := by
 have nit : ∀ b u, H b = some u -> b ≠ it := fun b u e z => by rw [z, hn] at e; cases e
 refine I.step (g' := s.gens) (d' := s.drawn) (ch := [it]) (fun b hb => ?_) (fun b o _ _ hc e _ => k b o (fun z => hc (by simp [z])) e) (fun b o _ _ hc e _ => ⟨o.slots, k b o (fun z => hc (by simp [z])) e⟩) (fun _ _ _ _ n => n)
  (fun b o hc e => ⟨o, k b o (fun z => hc (by simp [z])) e⟩) (fun _ _ e => e) (fun _ _ _ e => e) (fun b ps e => ⟨#[], by rw [e]; simp⟩) (fun m hm => ?_) (fun b u e => ?_) I.bare
 ·have e : b = it := by simpa using hb
  subst e
  exact ⟨h1, hL, h2, h3⟩
 ·obtain ⟨o, es, ep, ho, r⟩ := hm
  exact ⟨o, es, ep, k _ o (Ne.symm hL) ho, r⟩
 ·refine (I.hok b u e).stay (fun c v hc q => k c v ?_ q) (fun _ q => q) fun _ _ q => q
  rcases hc with z | z
  ·rw [z]; exact nit b u e
  ·exact nit c _ z
theorem Inv.tok (I : Inv X pins σ H s) (t : Nat) : Inv X pins σ H { s with toks := t } := I.un (h' := s.heap) (t' := t) Un.refl I.hok
theorem Inv.kept {t' : Nat} (I : Inv X pins σ H s) (k : ∀ b u, s.heap.get? b = some u -> h'.get? b = some u) : Inv X pins σ H { s with heap := h', toks := t' } := I.un (Un.kept k) (I.hok.kept k)
theorem Inv.laid {a : Addr} {o : HO} {t' : Nat} (I : Inv X pins σ H s) (k : ∀ b u, s.heap.get? b = some u -> h'.get? b = some u) (hp : s.heap.objs.size <= a) (new : ObjOk X.prog X.w (upd H a o) h' a o) :
  Inv X pins σ (upd H a o) { s with heap := h', toks := t' } := I.un (Un.laid k hp (I.hok.fresh hp)) (I.hok.laid k hp new)
theorem Inv.write {x e : Addr} {o : HO} {t' : Nat} (I : Inv X pins σ H s) (mu : Mut (H x)) (he : e = x \/ H e = some (.own x)) (k : ∀ b u, b ≠ e -> s.heap.get? b = some u -> h'.get? b = some u) (heo : ∃ u, h'.get? e = some u)
  (new : ObjOk X.prog X.w (upd H x o) h' x o) : Inv X pins σ (upd H x o) { s with heap := h', toks := t' } := I.un (Un.write mu he k heo) (I.hok.write mu he k heo new)
theorem Inv.pins_of {pins' : List (Addr × Obj)} (I : Inv X pins σ H s) (h : ∀ p ∈ pins', s.heap.get? p.1 = some p.2 /\ H p.1 = none /\ p.1 ≠ X.env.locals /\ p.1 ∉ X.fs /\ ∀ v, p.2.data ≠ .cell v) : Inv X pins' σ H s :=
 ⟨I.ok, I.os, I.bare, I.base, I.loc, I.cell, I.free, I.freeC, fun p hp => (List.mem_append.mp hp).elim (fun z => I.pin p (List.mem_append_left _ z)) (h p), I.hok, I.len⟩
theorem Zg3 {N : List Str} (hN : N.Nodup) {i j : Nat} {x : Str} (a : N[i]? = some x) (b : N[j]? = some x) : i = j := by
 obtain ⟨h1, e1⟩ := List.getElem?_eq_some_iff.mp a
 obtain ⟨h2, e2⟩ := List.getElem?_eq_some_iff.mp b
 exact (List.getElem_inj hN).mp (e1.trans e2.symm)
theorem Zfl {M : Model} {A : Around} {E : Value -> Shared -> Prop} {i : Nat} {x : Str} {v : V} {u : Value} {Q : Unit -> Shared -> Prop} (I : Inv X pins σ H s) (hN : X.N.Nodup) (hi : X.N[i]? = some x) (hx : Loc X.env.scope x) (r : RelV v u)
  (h : ∀ s', Inv X pins (σ.set i (some v)) H s' -> (∃ a, Heap.SameBut a s.heap s'.heap /\ (a = X.env.locals \/ X.env.cells.lookup x = some a)) -> Q () s') (hf : X.fn x = true \/ X.env.scope.names.lookup x = some .local := by first | exact .inl rfl | exact .inr rfl | assumption) : wpAny M A (storeName X.env x u) Q E s := by
 obtain ⟨m, hn, hl⟩ := id I.loc
 have hcls : (X.env.scope.kind == .class || (X.env.scope.kind == .module && X.env.locals != X.env.globals)) = false := by rw [I.ok.kind]; rfl
 have hiσ : i < σ.length := by rw [I.len]; exact (List.getElem?_eq_some_iff.mp hi).1
 have cne := I.cne
 have tracked : ∀ {a : Addr} {h' : Heap}, (∃ o, s.heap.get? a = some o /\ H a = none) -> Heap.SameBut a s.heap h' -> HOk X.prog X.w H h' := fun {a h'} ha hs b ob e => by
  obtain ⟨_, _, hfree⟩ := ha
  refine (I.hok b ob e).stay (fun c w' hc q => (hs.2 c ?_).trans q) (fun _ q => q) fun _ _ q => q
  rintro rfl
  rcases hc with rfl | hc
  ·rw [hfree] at e; cases e
  ·rw [hfree] at hc; cases hc
 rcases hx with hk | hk
 ·refine wpAny_storeName_local hk hn (fun h' hn' hs => ?_) hcls
  obtain ⟨oL, _, _, hoL, _⟩ := id hn
  refine h _ ⟨I.ok, I.os, I.bare, ⟨fun b o e n hb hx => ?_, fun b o e n hb hx => ?_, I.base.free, fun b o e hx => ?_, I.base.tups, I.base.frzs, I.base.tbls⟩, ⟨_, hn', fun j y v' e1 e2 e3 => ?_⟩, fun y c e => ?_, I.free, I.freeC, fun p hp => ?_, tracked ⟨oL, hoL, I.free⟩ hs, by simpa using I.len⟩ ⟨_, hs, .inl rfl⟩
  ·exact (hs.2 b (Nat.ne_of_lt (Nat.lt_of_lt_of_le (Heap.lt_size e) I.ok.above))).trans (I.base.keep b o e n hb hx)
  ·obtain ⟨sl, e1⟩ := I.base.slot b o e n hb hx
   exact ⟨sl, (hs.2 b (Nat.ne_of_lt (Nat.lt_of_lt_of_le (Heap.lt_size e) I.ok.above))).trans e1⟩
  ·obtain ⟨o', e1⟩ := I.base.there b o e hx
   exact ⟨o', (hs.2 b (Nat.ne_of_lt (Nat.lt_of_lt_of_le (Heap.lt_size e) I.ok.above))).trans e1⟩
  ·by_cases hj : j = i
   ·subst hj
    rw [hi] at e1; cases e1
    rw [List.getElem?_set_self hiσ] at e2
    cases e2
    exact ⟨u, r, .inl ⟨hk, by simp⟩⟩
   ·rw [List.getElem?_set_ne (Ne.symm hj)] at e2
    obtain ⟨u', r', q⟩ := hl j y v' e1 e2 e3
    refine ⟨u', r', ?_⟩
    rcases q with ⟨k, e⟩ | ⟨k, c, e, z⟩
    ·refine .inl ⟨k, ?_⟩
     have : y ≠ x := fun e => hj (Zg3 hN e1 (e ▸ hi))
     simp [this, e]
    ·exact .inr ⟨k, c, e, z.sameBut hs (cne y c e)⟩
  ·obtain ⟨w', z⟩ := I.cell y c e
   exact ⟨w', z.sameBut hs (cne y c e)⟩
  ·obtain ⟨e, n, ne, nf, d⟩ := I.pin p hp
   exact ⟨(hs.2 p.1 ne).trans e, n, ne, nf, d⟩
 ·have hfn : X.fn x = true := by
   rcases hf with z | z
   ·exact z
   ·rw [z] at hk; cases hk
  obtain ⟨c, hc⟩ := I.ok.has x (.inl hk)
  obtain ⟨w', z⟩ := I.cell x c hc
  refine wpAny_storeName_cell I.ok.kind hk hc z (fun h' hc' hs => ?_)
  obtain ⟨oc, hoc, hocd⟩ := id z
  refine h { s with heap := h' } ⟨I.ok, I.os, I.bare, ⟨fun b o e n hb hx => ?_, fun b o e n hb hx => ?_, I.base.free, fun b o e hx => ?_, I.base.tups, I.base.frzs, I.base.tbls⟩, ⟨m, hn.sameBut hs (Ne.symm (cne x c hc)), fun j y v' e1 e2 e3 => ?_⟩, fun y c' e => ?_, I.free, I.freeC, fun p hp => ?_, tracked ⟨oc, hoc, I.freeC x c hc⟩ hs, by simpa using I.len⟩ ⟨c, hs, .inr hc⟩
  ·exact (hs.2 b (Nat.ne_of_lt (Nat.lt_of_lt_of_le (Heap.lt_size e) (I.ok.cab x c hfn hc)))).trans (I.base.keep b o e n hb hx)
  ·obtain ⟨sl, e1⟩ := I.base.slot b o e n hb hx
   exact ⟨sl, (hs.2 b (Nat.ne_of_lt (Nat.lt_of_lt_of_le (Heap.lt_size e) (I.ok.cab x c hfn hc)))).trans e1⟩
  ·obtain ⟨o', e1⟩ := I.base.there b o e hx
   exact ⟨o', (hs.2 b (Nat.ne_of_lt (Nat.lt_of_lt_of_le (Heap.lt_size e) (I.ok.cab x c hfn hc)))).trans e1⟩
  ·by_cases hj : j = i
   ·subst hj
    rw [hi] at e1; cases e1
    rw [List.getElem?_set_self hiσ] at e2
    cases e2
    exact ⟨u, r, .inr ⟨.inl hk, c, hc, hc'⟩⟩
   ·rw [List.getElem?_set_ne (Ne.symm hj)] at e2
    obtain ⟨u', r', q⟩ := hl j y v' e1 e2 e3
    refine ⟨u', r', ?_⟩
    rcases q with q | ⟨k, c', e, z'⟩
    ·exact .inl q
    ·refine .inr ⟨k, c', e, z'.sameBut hs ?_⟩
     rintro rfl
     exact hj (Zg3 hN e1 (I.ok.inj _ _ _ e hc ▸ hi))
  ·by_cases hcc : c' = c
   ·subst hcc; exact ⟨_, hc'⟩
   ·obtain ⟨w2, z2⟩ := I.cell y c' e
    exact ⟨w2, z2.sameBut hs hcc⟩
  ·obtain ⟨e, n, ne, nf, d⟩ := I.pin p hp
   refine ⟨(hs.2 p.1 ?_).trans e, n, ne, nf, d⟩
   intro q
   rw [q, hoc] at e
   have q' : oc = p.2 := Option.some.inj e
   exact d w' (by rw [<- q']; exact hocd)
theorem ZgH {M : Model} {A : Around} {E : Value -> Shared -> Prop} {i : Nat} {x : Str} {v : V} {u : Value} {Q : Unit -> Shared -> Prop} (I : Inv X pins σ H s) (hN : X.N.Nodup) (hi : X.N[i]? = some x) (hx : Loc X.env.scope x) (r : RelV v u)
  (h : ∀ s', Inv X pins (σ.set i (some v)) H s' -> Q () s') (hf : X.fn x = true \/ X.env.scope.names.lookup x = some .local := by first | exact .inl rfl | exact .inr rfl | assumption) : wpAny M A (storeName X.env x u) Q E s :=
 Zfl I hN hi hx r (fun s' I' _ => h s' I') hf
theorem Inv.call' {s' : Shared} {ch : List Addr} (I : Inv X pins σ H s) (ho : s'.os = s.os) (u : Un (frs X.stack) ch H H' s.heap s'.heap) (hok : HOk X.prog X.w H' s'.heap) (hg : AllBare s'.gens)
  (hch : ∀ b ∈ ch, (b ∈ X.ex \/ X.s₀.heap.objs.size <= b) /\ b ≠ X.env.locals /\ (∀ x c, X.env.cells.lookup x = some c -> c ≠ b) /\ ∀ p ∈ X.pn ++ pins, p.1 ≠ b) : Inv X pins σ H' s' := by
 obtain ⟨h', g', d', t', o'⟩ := s'
 have e : o' = s.os := ho
 subst e
 exact I.call (g' := g') (t' := t') (d' := d') u hok hg hch
end
noncomputable abbrev XK := Value -> Option Addr -> Hp -> Prop
noncomputable abbrev St := List (Option V)
noncomputable abbrev VK := V -> Hp -> Prop
noncomputable abbrev TE := St -> Hp -> VK -> Prop
noncomputable abbrev TT := St -> Hp -> (Bool -> Hp -> Prop) -> Prop
noncomputable abbrev TA := St -> Hp -> (List V -> Hp -> Prop) -> Prop
structure Ends where
 nx : St -> Hp -> Prop
 rt : VK
 bk : St -> Hp -> Prop := fun _ _ => False
 ct : St -> Hp -> Prop := fun _ _ => False
noncomputable abbrev TS := Ends -> St -> Hp -> Prop
noncomputable def EP (X : Cx) (pins : List (Addr × Obj)) (σ : St) (Q : VK) (u : Value) (s' : Shared) : Prop := ∃ v H', Inv X pins σ H' s' /\ RelV v u /\ Q v H'
noncomputable def TP (X : Cx) (pins : List (Addr × Obj)) (σ : St) (Q : Bool -> Hp -> Prop) (b : Bool) (s' : Shared) : Prop := ∃ H', Inv X pins σ H' s' /\ Q b H'
noncomputable def AP (X : Cx) (pins : List (Addr × Obj)) (σ : St) (Q : List V -> Hp -> Prop) (us : List Value) (s' : Shared) : Prop := ∃ vs H', Inv X pins σ H' s' /\ Vals vs us /\ Q vs H'
noncomputable def SP (X : Cx) (pins : List (Addr × Obj)) (D : Ends) (f : Flow) (s' : Shared) : Prop :=
 match f with
 | .next => ∃ σ' H', Inv X pins σ' H' s' /\ D.nx σ' H'
 | .brk => ∃ σ' H', Inv X pins σ' H' s' /\ D.bk σ' H'
 | .cont => ∃ σ' H', Inv X pins σ' H' s' /\ D.ct σ' H'
 | .ret u => ∃ v σ' H', Inv X pins σ' H' s' /\ RelV v u /\ D.rt v H'
noncomputable def PE (X : Cx) (e : Expr) (t : TE) : Prop :=
 ∀ (pins : List (Addr × Obj)) (s : Shared) (σ : St) (H : Hp) (Q : VK), Inv X pins σ H s -> t σ H Q -> wpAny (model X.prog X.w) X.A (eval e X.env) (EP X pins σ Q) X.xe s
noncomputable def PT (X : Cx) (e : Expr) (t : TT) : Prop :=
 ∀ (pins : List (Addr × Obj)) (s : Shared) (σ : St) (H : Hp) (Q : Bool -> Hp -> Prop), Inv X pins σ H s -> t σ H Q -> wpAny (model X.prog X.w) X.A (isTrue e X.env (eval e X.env)) (TP X pins σ Q) X.xe s
noncomputable def PW (X : Cx) (e : Expr) (t : TT) : Prop :=
 ∀ (whole : Sem Value) (pins : List (Addr × Obj)) (s : Shared) (σ : St) (H : Hp) (Q : Bool -> Hp -> Prop), Inv X pins σ H s -> t σ H Q -> wpAny (model X.prog X.w) X.A (isTrue e X.env whole) (TP X pins σ Q) X.xe s
theorem PW.pt {X : Cx} {e : Expr} {t : TT} (h : PW X e t) : PT X e t := h _
noncomputable def PA (X : Cx) (es : List Expr) (t : TA) : Prop :=
 ∀ (pos : Pos) (pins : List (Addr × Obj)) (s : Shared) (σ : St) (H : Hp) (Q : List V -> Hp -> Prop), Inv X pins σ H s -> t σ H Q -> wpAny (model X.prog X.w) X.A (spliced (backTo pos (starEach es X.env))) (AP X pins σ Q) X.xe s
noncomputable def PS (X : Cx) (st : Stmt) (t : TS) : Prop :=
 ∀ (pins : List (Addr × Obj)) (s : Shared) (σ : St) (H : Hp) (D : Ends), Inv X pins σ H s -> t D σ H -> wpAny (model X.prog X.w) X.A (exec st X.env) (SP X pins D) X.xe s
noncomputable def PSs (X : Cx) (st : List Stmt) (t : TS) : Prop :=
 ∀ (pins : List (Addr × Obj)) (s : Shared) (σ : St) (H : Hp) (D : Ends), Inv X pins σ H s -> t D σ H -> wpAny (model X.prog X.w) X.A (execs st X.env) (SP X pins D) X.xe s
theorem thn {α : Type} {t : Sem α} {Q Q' : α -> Shared -> Prop} {M : Model} {A : Around} {E : Value -> Shared -> Prop} {s : Shared} (h : wpAny M A t Q E s) (hQ : ∀ a s, Q a s -> Q' a s) : wpAny M A t Q' E s := wpAny_mono h hQ fun _ _ x => x
end L2
namespace L2
open PySem PySem.Spec PyProof.Rows
section
variable {X : Cx}
theorem bin {a b : Expr} {ta tb : TE} (ha : PE X a ta) (hb : PE X b tb) {pins : List (Addr × Obj)} {s : Shared} {σ : St} {H : Hp} {R : V -> V -> Hp -> Prop} (I : Inv X pins σ H s) (h : ta σ H fun x H1 => tb σ H1 fun y H2 => R x y H2)
  {α : Type} {Q : α -> Shared -> Prop} {f : Value -> Value -> Sem α}
  (hf : ∀ v u s2 x y H2, Inv X pins σ H2 s2 -> RelV x v -> RelV y u -> R x y H2 -> wpAny (model X.prog X.w) X.A (f v u) Q X.xe s2) :
  wpAny (model X.prog X.w) X.A (eval a X.env) (fun v s₁ => wpAny (model X.prog X.w) X.A (eval b X.env) (fun u s₂ => wpAny (model X.prog X.w) X.A (f v u) Q X.xe s₂) X.xe s₁) X.xe s := by
 refine thn (ha pins s σ H _ I h) fun v s1 ⟨x, H1, I1, r1, q1⟩ => ?_
 refine thn (hb pins s1 σ H1 _ I1 q1) fun u s2 ⟨y, H2, I2, r2, q2⟩ => ?_
 exact hf v u s2 x y H2 I2 r1 r2 q2
noncomputable def tVar (i : Nat) : TE := fun σ H Q => ∃ v, σ[i]? = some (some v) /\ Q v H
noncomputable def tC (v : V) : TE := fun _ H Q => Q v H
theorem pe_var {i : Nat} {x : Str} {pos : Pos} (hN : X.N[i]? = some x) (hv : Vis X.env.scope x) (hd : (x == ("__debug__" : Str)) = false := by decide) (hcd : (x == ("__classdict__" : Str)) = false := by decide) : PE X (.Name x pos) (tVar i) := by
 intro pins s σ H Q I h
 obtain ⟨v, e, h⟩ := h
 obtain ⟨m, hn, hl⟩ := I.loc
 obtain ⟨u, r, l⟩ := hl i x v hN e hv
 have fin : EP X pins σ Q u s := ⟨v, H, I, r, h⟩
 rcases l with ⟨hk, hm⟩ | ⟨hk, c, hc, hcell⟩
 ·exact wpAny_Name (wpAny_loadName_local I.ok.kind hk hn hm fin) hd
 ·rcases hk with hk | hk
  ·exact wpAny_Name (wpAny_loadName_cell I.ok.kind hk hc hcell fin) hd
  ·exact wpAny_Name (wpAny_loadName_free I.ok.kind hk hc hcell fin hcd) hd
theorem Zab {i j pos} : PE X (.Constant (.int i) j pos) (tC (.int i)) := fun _ _ _ H _ I h => wpAny_Constant_int ⟨.int i, H, I.tok _, ⟨_, rfl⟩, h⟩
theorem Zb9 {b j pos} : PE X (.Constant (.bool b) j pos) (tC (.bl b)) := fun _ _ _ H _ I h => Constant_bool ⟨.bl b, H, I, rfl, h⟩
theorem Zlh {j pos} : PE X (.Constant .none j pos) (tC .non) := fun _ _ _ H _ I h => Constant_none ⟨.non, H, I, rfl, h⟩
theorem Zaw {x j pos} : PE X (.Constant (.str x) j pos) (tC (.str x)) := fun _ _ _ H _ I h => Calls.Constant_str ⟨.str x, H, I.tok _, ⟨_, rfl⟩, h⟩
noncomputable def Gl (X : Cx) (x : Str) : Prop := X.env.kindOf x = some .globalImplicit
theorem Ze3 {E : Value -> Shared -> Prop} {pins : List (Addr × Obj)} {s : Shared} {σ : St} {H : Hp} {x : Str} {u : Value} {pos : Pos} {Q : Value -> Shared -> Prop} (I : Inv X pins σ H s) (hg : Gl X x) (hm : X.mg x = some u) (h : Q u s)
  (hd : (x == ("__debug__" : Str)) = false := by decide) : wpAny (model X.prog X.w) X.A (eval (.Name x pos) X.env) Q E s :=
 Calls.Name_function_global I.ok.kind hg (Calls.loadGlobal_global (by rw [I.ok.glob]; exact I.mod.glob.keeps I.bk) hm h) hd
theorem Zfz {E : Value -> Shared -> Prop} {pins : List (Addr × Obj)} {s : Shared} {σ : St} {H : Hp} {x : Str} {u : Value} {pos : Pos} {Q : Value -> Shared -> Prop} (I : Inv X pins σ H s) (hg : Gl X x) (hm : X.mg x = none) (hv : bootBuiltins x = some u) (h : Q u s)
  (hn : x ≠ "__name__" := by decide) (hd : (x == ("__debug__" : Str)) = false := by decide) : wpAny (model X.prog X.w) X.A (eval (.Name x pos) X.env) Q E s := by
 obtain ⟨mb, h1, h2⟩ := I.mod.blt
 exact Calls.Name_function_global I.ok.kind hg (Calls.loadGlobal_builtin (by rw [I.ok.glob]; exact I.mod.glob.keeps I.bk) hm (by rw [I.ok.blt]; exact h1.keeps I.bk) ((h2 x hn).trans hv) h) hd
theorem ZiH {x : Str} {v : V} {u : Value} {pos : Pos} (hg : Gl X x) (hm : X.mg x = some u) (r : RelV v u) (hd : (x == ("__debug__" : Str)) = false := by decide) : PE X (.Name x pos) (tC v) :=
 fun _ _ _ H _ I h => Ze3 I hg hm ⟨v, H, I, r, h⟩ hd
theorem Za7 {x : Str} {v : V} {u : Value} {pos : Pos} (hg : Gl X x) (hm : X.mg x = none) (hv : bootBuiltins x = some u) (r : RelV v u) (hn : x ≠ "__name__" := by decide) (hd : (x == ("__debug__" : Str)) = false := by decide) : PE X (.Name x pos) (tC v) :=
 fun _ _ _ H _ I h => Zfz I hg hm hv ⟨v, H, I, r, h⟩ hn hd
variable {a b : Expr} {ta tb : TE} {pos : Pos}
noncomputable def tB (t : TE) : TT := fun σ H Q => t σ H fun x H1 => ∃ c, x = .bl c /\ Q c H1
theorem Zbm {e : Expr} {t : TE} (h : PE X e t) (he : ∀ whole, isTrue e X.env whole = (do let v <- whole; standAt e.pos; holding [v] (truthy v)) := by intro _; rfl) : PT X e (tB t) := by
 intro pins s σ H Q I hw
 refine isTrue_plain (thn (h pins s σ H _ I hw) fun v s1 ⟨x, H1, I1, r1, q1⟩ => ?_) (he _)
 obtain ⟨d, rfl, q⟩ := q1
 cases r1
 exact wpAny_truthy_bool ⟨H1, I1, q⟩
variable {tA tB' : TT} {rest : List Expr}
noncomputable def tAnd (t u : TT) : TT := fun σ H Q => t σ H fun c H1 => if c = true then u σ H1 Q else Q false H1
noncomputable def tOr (t u : TT) : TT := fun σ H Q => t σ H fun c H1 => if c = true then Q true H1 else u σ H1 Q
noncomputable def tNot (t : TT) : TT := fun σ H Q => t σ H fun c H1 => Q (!c) H1
theorem ZbV (ha : PT X a tA) : PW X (.BoolOp .And [a] pos) tA := by
 intro wh pins s σ H Q I h
 refine isTrue_and (thn (ha pins s σ H Q I h) fun c s1 e => ?_)
 cases c with
 | true => exact isTrue_and_nil e
 | false => exact e
theorem Zfp (ha : PT X a tA) : PW X (.BoolOp .Or [a] pos) tA := by
 intro wh pins s σ H Q I h
 refine isTrue_or (thn (ha pins s σ H Q I h) fun c s1 e => ?_)
 cases c with
 | false => exact isTrue_or_nil e
 | true => exact e
theorem Zb0 (ha : PT X a tA) (hb : PW X (.BoolOp .And (b :: rest) pos) tB') : PW X (.BoolOp .And (a :: b :: rest) pos) (tAnd tA tB') := by
 intro wh pins s σ H Q I h
 refine isTrue_and (thn (ha pins s σ H _ I h) fun c s1 ⟨H1, I1, q1⟩ => ?_)
 cases c with
 | true => exact hb wh pins s1 σ H1 Q I1 q1
 | false => exact ⟨H1, I1, q1⟩
theorem Zf8 (ha : PT X a tA) (hb : PW X (.BoolOp .Or (b :: rest) pos) tB') : PW X (.BoolOp .Or (a :: b :: rest) pos) (tOr tA tB') := by
 intro wh pins s σ H Q I h
 refine isTrue_or (thn (ha pins s σ H _ I h) fun c s1 ⟨H1, I1, q1⟩ => ?_)
 cases c with
 | true => exact ⟨H1, I1, q1⟩
 | false => exact hb wh pins s1 σ H1 Q I1 q1
theorem Zb1 (ha : PT X a tA) : PT X (.UnaryOp .Not a pos) (tNot tA) := by
 intro pins s σ H Q I h
 exact isTrue_not (ha pins s σ H (fun c H1 => Q (!c) H1) I h)
noncomputable def tAndV (ta tb : TE) : TE := fun σ H Q => ta σ H fun x H1 => ∃ c, x = .bl c /\ if c = true then tb σ H1 Q else Q (.bl false) H1
noncomputable def tOrV (ta tb : TE) : TE := fun σ H Q => ta σ H fun x H1 => ∃ c, x = .bl c /\ if c = true then Q (.bl true) H1 else tb σ H1 Q
noncomputable def tNotV (ta : TE) : TE := fun σ H Q => ta σ H fun x H1 => ∃ c, x = .bl c /\ Q (.bl (!c)) H1
theorem Zed {op} {t : TE} (h : PE X a t) : PE X (.BoolOp op [a] pos) t := fun pins s σ H Q I hw => BoolOp_one (h pins s σ H Q I hw)
theorem ZdM (ha : PE X a ta) (hb : PE X (.BoolOp .And (b :: rest) pos) tb) : PE X (.BoolOp .And (a :: b :: rest) pos) (tAndV ta tb) := by
 intro pins s σ H Q I h
 refine BoolOp_and (thn (ha pins s σ H _ I h) fun v s1 ⟨x, H1, I1, r1, q1⟩ => ?_)
 obtain ⟨c, rfl, q1⟩ := q1
 cases r1
 refine wpAny_truthy_bool ?_
 cases c with
 | true => exact hb pins s1 σ H1 Q I1 q1
 | false => exact ⟨.bl false, H1, I1, rfl, q1⟩
theorem pe_or (ha : PE X a ta) (hb : PE X (.BoolOp .Or (b :: rest) pos) tb) : PE X (.BoolOp .Or (a :: b :: rest) pos) (tOrV ta tb) := by
 intro pins s σ H Q I h
 refine BoolOp_or (thn (ha pins s σ H _ I h) fun v s1 ⟨x, H1, I1, r1, q1⟩ => ?_)
 obtain ⟨c, rfl, q1⟩ := q1
 cases r1
 refine wpAny_truthy_bool ?_
 cases c with
 | false => exact hb pins s1 σ H1 Q I1 q1
 | true => exact ⟨.bl true, H1, I1, rfl, q1⟩
theorem Zlg (ha : PE X a ta) : PE X (.UnaryOp .Not a pos) (tNotV ta) := by
 intro pins s σ H Q I h
 refine UnaryOp_ (thn (ha pins s σ H _ I h) fun v s1 ⟨x, H1, I1, r1, q1⟩ => ?_)
 obtain ⟨c, rfl, q1⟩ := q1
 cases r1
 exact not_of (wpAny_truthy_bool ⟨.bl (!c), H1, I1, rfl, q1⟩)
noncomputable def tIf (t : TT) (ta tb : TE) : TE := fun σ H Q => t σ H fun c H1 => if c = true then ta σ H1 Q else tb σ H1 Q
theorem Zko {c : Expr} (hc : PT X c tA) (ha : PE X a ta) (hb : PE X b tb) : PE X (.IfExp c a b pos) (tIf tA ta tb) := by
 intro pins s σ H Q I h
 refine wpAny_IfExp (thn (hc pins s σ H _ I h) fun d s1 ⟨H1, I1, q1⟩ => ?_)
 cases d with
 | true => exact ha pins s1 σ H1 Q I1 q1
 | false => exact hb pins s1 σ H1 Q I1 q1
end
end L2
namespace L2
open PySem PySem.Spec PyProof.Rows
noncomputable def SqL (K : PySem.W.Frag) (H : Hp) (a : Addr) (xs : List V) : Prop :=
 Rd H a (.lst xs) \/
  ∃ (o : Obj) (its : Array Value) (n : Nat), K.lookup a = some o /\ o.cls = .type "list" /\ o.dict = none /\ o.data = .seq its n /\ its.size <= sizeLine /\ Vals xs its.toList
noncomputable def SqT (K : PySem.W.Frag) (H : Hp) (a : Addr) (xs : List V) : Prop :=
 Rd H a (.tup xs) \/
  ∃ (o : Obj) (its : Array Value) (n : Nat), K.lookup a = some o /\ o.cls = .type "tuple" /\ o.data = .seq its n /\ its.size <= sizeLine /\ Vals xs its.toList
noncomputable def absV : Value -> Option V
 | .none => some .non
 | .bool b => some (.bl b)
 | .int i _ => some (.int i)
 | .str x _ => some (.str x)
 | .bytes b _ => some (.byt b)
 | .float b _ => some (.flt b)
 | .ref a => some (.ref a)
 | .type n => some (.ty n)
 | _ => none
theorem RelV.abs {x : V} {u : Value} (r : RelV x u) : absV u = some x := by
 cases x with
 | non => cases r; rfl
 | bl _ => cases r; rfl
 | int _ => obtain ⟨t, rfl⟩ := r; rfl
 | str _ => obtain ⟨t, rfl⟩ := r; rfl
 | byt _ => obtain ⟨t, rfl⟩ := r; rfl
 | flt _ => obtain ⟨t, rfl⟩ := r; rfl
 | ref _ => cases r; rfl
 | ty _ => cases r; rfl
theorem RelV.inj {x y : V} {u : Value} (r : RelV x u) (q : RelV y u) : x = y := Option.some.inj (r.abs.symm.trans q.abs)
theorem Vals.inj {xs ys : List V} {us : List Value} (h : Vals xs us) (h' : Vals ys us) : xs = ys := by
  induction h generalizing ys with
  | nil => cases h'; rfl
  | cons r _ ih =>
    cases h' with
    | cons r' t' => rw [r.inj r', ih t']
section
variable {X : Cx} {pins : List (Addr × Obj)} {σ : St} {H : Hp} {s : Shared} {a : Addr} {xs ys : List V}
theorem SqL.of {K : PySem.W.Frag} (h : H a = some (.lst xs)) : SqL K H a xs := .inl (.inl h)
theorem SqT.of {K : PySem.W.Frag} (h : H a = some (.tup xs)) : SqT K H a xs := .inl (.inl h)
theorem Inv.list (I : Inv X pins σ H s) (h : SqL X.K H a xs) : ∃ its : List Value, Vals xs its /\ PlainL s.heap a its.toArray /\ xs.length <= sizeLine := by
 rcases h with h | ⟨o, its, n, hk, hc, hd, hs, hz, r⟩
 ·obtain ⟨z, its, n, r, e⟩ := h.ok I.hok
  exact ⟨its, r, ⟨_, n, e, rfl, rfl, rfl⟩, z⟩
 ·refine ⟨its.toList, r, ⟨o, n, I.kIn a o hk, hc, hd, by simpa using hs⟩, ?_⟩
  have e := r.length
  simp only [Array.length_toList] at e
  lia
theorem Inv.tuple (I : Inv X pins σ H s) (h : SqT X.K H a xs) : ∃ its : List Value, Vals xs its /\ IsTup s.heap a its.toArray /\ xs.length <= sizeLine := by
 rcases h with h | ⟨o, its, n, hk, hc, hs, hz, r⟩
 ·obtain ⟨z, its, r, p⟩ := h.ok I.hok
  exact ⟨its, r, p, z⟩
 ·refine ⟨its.toList, r, ⟨o, I.kIn a o hk, hc, n, by simpa using hs⟩, ?_⟩
  have e := r.length
  simp only [Array.length_toList] at e
  lia
theorem Inv.list_inj (I : Inv X pins σ H s) (h : SqL X.K H a xs) (h' : SqL X.K H a ys) : xs = ys := by
 obtain ⟨its, r, ⟨o, n, e, _, _, d⟩, _⟩ := I.list h
 obtain ⟨its', r', ⟨o', n', e', _, _, d'⟩, _⟩ := I.list h'
 rw [e] at e'; cases e'
 rw [d] at d'
 injection d' with d1 _
 have : its = its' := by simpa using congrArg Array.toList d1
 subst this
 exact r.inj r'
theorem Inv.tuple_inj (I : Inv X pins σ H s) (h : SqT X.K H a xs) (h' : SqT X.K H a ys) : xs = ys := by
 obtain ⟨its, r, ⟨o, e, _, n, d⟩, _⟩ := I.tuple h
 obtain ⟨its', r', ⟨o', e', _, n', d'⟩, _⟩ := I.tuple h'
 rw [e] at e'; cases e'
 rw [d] at d'
 injection d' with d1 _
 have : its = its' := by simpa using congrArg Array.toList d1
 subst this
 exact r.inj r'
end
noncomputable abbrev Cx.wish (X : Cx) (E : Value -> Shared -> Prop) : Cx := { X with xe := E }
noncomputable abbrev Cx.nox (X : Cx) : Cx := X.wish fun _ _ => False
theorem Cx.Ok.wish {X : Cx} (ok : X.Ok) (E : Value -> Shared -> Prop) : (X.wish E).Ok :=
 ⟨ok.mod, ok.kind, ok.glob, ok.blt, ok.above, ok.inj, ok.has, ok.cab, ok.hd, ok.frames, ok.stk, ok.exf, ok.bs, ok.bsz, ok.noex, ok.exfs, ok.funs, ok.frf⟩
theorem Cx.Ok.unwish {X : Cx} {E : Value -> Shared -> Prop} (ok : (X.wish E).Ok) : X.Ok :=
 ⟨ok.mod, ok.kind, ok.glob, ok.blt, ok.above, ok.inj, ok.has, ok.cab, ok.hd, ok.frames, ok.stk, ok.exf, ok.bs, ok.bsz, ok.noex, ok.exfs, ok.funs, ok.frf⟩
section
variable {X : Cx} {pins : List (Addr × Obj)} {σ : St} {H : Hp} {s : Shared} {E : Value -> Shared -> Prop}
theorem Inv.wish (I : Inv X pins σ H s) (E : Value -> Shared -> Prop) : Inv (X.wish E) pins σ H s := ⟨I.ok.wish E, I.os, I.bare, I.base, I.loc, I.cell, I.free, I.freeC, I.pin, I.hok, I.len⟩
theorem Inv.unwish (I : Inv (X.wish E) pins σ H s) : Inv X pins σ H s := ⟨I.ok.unwish, I.os, I.bare, I.base, I.loc, I.cell, I.free, I.freeC, I.pin, I.hok, I.len⟩
theorem SP.unwish {D : Ends} {f : Flow} {s' : Shared} (h : SP (X.wish E) pins D f s') : SP X pins D f s' := by
 cases f with
 | next => obtain ⟨σ', H', I, q⟩ := h; exact ⟨σ', H', I.unwish, q⟩
 | brk => obtain ⟨σ', H', I, q⟩ := h; exact ⟨σ', H', I.unwish, q⟩
 | cont => obtain ⟨σ', H', I, q⟩ := h; exact ⟨σ', H', I.unwish, q⟩
 | ret u => obtain ⟨v, σ', H', I, r, q⟩ := h; exact ⟨v, σ', H', I.unwish, r, q⟩
theorem PSs.nox {st : List Stmt} {t : TS} (h : PSs X.nox st t) : PSs X st t := fun pins s σ H D I hw =>
 wpAny_mono (h pins s σ H D (I.wish _) hw) (fun _ _ q => q.unwish) fun _ _ z => False.elim z
end
section
variable {X : Cx} {st : Stmt} {rest : List Stmt} {t u : TS} {e : Expr} {te : TE} {pos : Pos}
noncomputable def ZjW : TS := fun D σ H => D.nx σ H
noncomputable def tSeq (t u : TS) : TS := fun D σ H => t { D with nx := u D } σ H
theorem Zam : PSs X [] ZjW := fun _ _ σ H _ I h => wpAny_execs_nil ⟨σ, H, I, h⟩
theorem Zae (h1 : PS X st t) (h2 : PSs X rest u) : PSs X (st :: rest) (tSeq t u) := by
  intro pins s σ H D I h
  refine wpAny_execs_cons (thn (h1 pins s σ H { D with nx := u D } I h) fun f s1 q => ?_)
  cases f with
  | next =>
    obtain ⟨σ', H', I', q⟩ := q
    exact h2 pins s1 σ' H' D I' q
  | ret v => exact q
  | brk => exact q
  | cont => exact q
theorem Zaf (h1 : PS X st t) : PSs X [st] t := by
 intro pins s σ H D I h
 refine wpAny_execs_cons (thn (h1 pins s σ H D I h) fun f s1 q => ?_)
 cases f with
 | next => exact wpAny_execs_nil q
 | ret v => exact q
 | brk => exact q
 | cont => exact q
theorem Inv.quiet {pins : List (Addr × Obj)} {σ : St} {H : Hp} {s : Shared} (I : Inv X pins σ H s) : interactive X.env = false := by simp [interactive, I.ok.kind]
noncomputable def tDrop (te : TE) : TS := fun D σ H => te σ H fun _ H1 => D.nx σ H1
theorem Zdq (he : PE X e te) (hs : swapsWith e none pos.line X.env = pure false := by rfl) : PS X (.Expr e pos) (tDrop te) := by
 intro pins s σ H D I h
 exact wpAny_Expr_any (thn (he pins s σ H _ I h) fun v s1 ⟨x, H1, I1, r1, q1⟩ => ⟨σ, H1, I1, q1⟩) I.quiet hs
noncomputable def tRet (te : TE) : TS := fun D σ H => te σ H D.rt
theorem Zan (he : PE X e te) : PS X (.Return (some e) pos) (tRet te) := by
 intro pins s σ H D I h
 exact wpAny_Return_some (thn (he pins s σ H _ I h) fun v s1 ⟨x, H1, I1, r1, q1⟩ => ⟨x, σ, H1, I1, r1, q1⟩)
noncomputable def tIfS (c : TT) (t u : TS) : TS := fun D σ H => c σ H fun b H1 => if b = true then t D σ H1 else u D σ H1
theorem ZaF {c : Expr} {a b : List Stmt} {tc : TT} (hc : PT X c tc) (ha : PSs X a t) (hb : PSs X b u) : PS X (.If c a b pos) (tIfS tc t u) := by
 intro pins s σ H D I h
 refine wpAny_If (thn (hc pins s σ H _ I h) fun d s1 ⟨H1, I1, q1⟩ => ?_)
 cases d with
 | true => exact ha pins s1 σ H1 D I1 q1
 | false => exact hb pins s1 σ H1 D I1 q1
noncomputable def tNever : TS := fun _ _ _ => False
theorem Zcv : PS X st tNever := fun _ _ _ _ _ _ h => h.elim
end
noncomputable abbrev TG := V -> St -> Hp -> (St -> Hp -> Prop) -> Prop
noncomputable abbrev TGs := List V -> St -> Hp -> (St -> Hp -> Prop) -> Prop
noncomputable def PG (X : Cx) (target : Expr) (t : TG) : Prop :=
 ∀ (pins : List (Addr × Obj)) (s : Shared) (σ : St) (H : Hp) (v : V) (u : Value) (Q : St -> Hp -> Prop), Inv X pins σ H s -> RelV v u -> t v σ H Q ->
  wpAny (model X.prog X.w) X.A (assign target X.env u) (fun _ s' => ∃ σ' H', Inv X pins σ' H' s' /\ Q σ' H') X.xe s
noncomputable def PGs (X : Cx) (ts : List Expr) (t : TGs) : Prop :=
 ∀ (pins : List (Addr × Obj)) (s : Shared) (σ : St) (H : Hp) (vs : List V) (us : List Value) (Q : St -> Hp -> Prop), Inv X pins σ H s -> Vals vs us -> t vs σ H Q ->
  wpAny (model X.prog X.w) X.A (assignInOrder ((assignEach ts X.env).map (·.2)) us) (fun _ s' => ∃ σ' H', Inv X pins σ' H' s' /\ Q σ' H') X.xe s
noncomputable abbrev TSet := V -> V -> V -> Hp -> (Hp -> Prop) -> Prop
noncomputable def PSet (X : Cx) (t : TSet) : Prop :=
 ∀ (pins : List (Addr × Obj)) (s : Shared) (σ : St) (H : Hp) (o i v : V) (ov iv u : Value) (Q : Hp -> Prop), Inv X pins σ H s -> RelV o ov -> RelV i iv -> RelV v u -> t o i v H Q ->
  wpAny (model X.prog X.w) X.A (setItem ov iv u) (fun _ s' => ∃ H', Inv X pins σ H' s' /\ Q H') X.xe s
section
variable {X : Cx} {pos : Pos}
noncomputable def ZdQ (i : Nat) : TG := fun v σ H Q => Q (σ.set i (some v)) H
theorem ZaG {i : Nat} {x : Str} (hN : X.N.Nodup) (hi : X.N[i]? = some x) (hx : Loc X.env.scope x) (hf : X.fn x = true \/ X.env.scope.names.lookup x = some .local := by first | exact .inl rfl | exact .inr rfl | assumption) : PG X (.Name x pos) (ZdQ i) := by
 intro pins s σ H v u Q I r h
 exact wpAny_assign_Name (ZgH I hN hi hx r (fun s' I' => ⟨_, H, I', h⟩) hf)
noncomputable def gNil : TGs := fun vs σ H Q => vs = [] /\ Q σ H
noncomputable def gCons (t : TG) (u : TGs) : TGs := fun vs σ H Q => ∃ v r, vs = v :: r /\ t v σ H fun σ' H' => u r σ' H' Q
theorem Zds : PGs X [] gNil := by
 intro pins s σ H vs us Q I r h
 obtain ⟨e, h⟩ := h
 subst e
 cases r
 exact assignInOrder_nil ⟨σ, H, I, h⟩
theorem Zbf {e : Expr} {es : List Expr} {t : TG} {u : TGs} (h1 : PG X e t) (h2 : PGs X es u)
    (hs : (assignEach (e :: es) X.env).map (·.2) = assign e X.env :: (assignEach es X.env).map (·.2) := by rfl) : PGs X (e :: es) (gCons t u) := by
  intro pins s σ H vs us Q I r h
  obtain ⟨v, vr, e1, h⟩ := h
  subst e1
  cases r with
  | cons r rr =>
    rw [hs]
    refine assignInOrder_cons (thn (h1 pins s σ H _ _ _ I r h) fun _ s1 ⟨σ1, H1, I1, q1⟩ => ?_)
    exact h2 pins s1 σ1 H1 _ _ Q I1 rr q1
noncomputable def gTup (K : PySem.W.Frag) (n : Nat) (t : TGs) : TG := fun v σ H Q => ∃ a xs, v = .ref a /\ SqT K H a xs /\ xs.length = n /\ t xs σ H Q
theorem pg_tup {es : List Expr} {k : Nat} {t : TGs} {n : Nat} (hc : X.calm = true) (h : PGs X es t)
  (hn : (assignEach es X.env).length = n := by rfl) (hst : (assignEach es X.env).findIdx? (·.1) = none := by rfl) : PG X (.Tuple es k pos) (gTup X.K n t) := by
 intro pins s σ H v u Q I r hw
 obtain ⟨a, xs, e1, hq, hl, hw⟩ := hw
 subst e1
 cases r
 obtain ⟨its, rv, ht, hz⟩ := I.tuple hq
 refine assign_Tuple_tuple (I.ok.hd hc) ht (by simp [hn, <- hl, rv.length]) hst fun h' hx => ?_
 have I1 : Inv X pins σ H { s with heap := h' } := I.kept (t' := s.toks) fun b o e => hx b o (Nat.ne_of_lt (Heap.lt_size e)) e
 exact h pins _ σ H xs _ Q I1 (by simpa using rv) hw
noncomputable def gSub (to ti : TE) (t : TSet) : TG := fun v σ H Q => to σ H fun o H1 => ti σ H1 fun i H2 => t o i v H2 fun H3 => Q σ H3
theorem Zfq {o i : Expr} {to ti : TE} {t : TSet} (ho : PE X o to) (hi : PE X i ti) (hs : PSet X t)
  (ha : ∀ v, assign (.Subscript o i pos) X.env v = (do
   let ov <- holding [v] (eval o X.env)
   let iv <- holding [v, ov] (eval i X.env)
   standAt pos
   holding [v, ov, iv] (setItem ov iv v)
   release [v, ov, iv] []) := by intro _; rfl) : PG X (.Subscript o i pos) (gSub to ti t) := by
 intro pins s σ H v u Q I r h
 rw [ha]
 refine wpAny_bind (wpAny_holding (thn (ho pins s σ H _ I h) fun ov s1 ⟨x, H1, I1, r1, q1⟩ => ?_))
 refine wpAny_bind (wpAny_holding (thn (hi pins s1 σ H1 _ I1 q1) fun iv s2 ⟨y, H2, I2, r2, q2⟩ => ?_))
 refine wpAny_bind (wpAny_standAt (wpAny_bind (wpAny_holding (thn (hs pins s2 σ H2 x y v ov iv u _ I2 r1 r2 r q2) fun _ s3 ⟨H3, I3, q3⟩ => ?_))))
 exact wpAny_release ⟨σ, H3, I3, q3⟩
noncomputable def tAsg (te : TE) (g : TG) : TS := fun D σ H => te σ H fun x H1 => g x σ H1 D.nx
theorem ZeC {tg e : Expr} {te : TE} {g : TG} (he : PE X e te) (hg : PG X tg g) (hs : swapsWithSole [tg] e pos.line X.env = pure false := by rfl) (hw : swappedStores [tg] e X.env = pure none := by rfl)
  (h1 : (assignEach [tg] X.env).map (·.2) = [assign tg X.env] := by rfl) : PS X (.Assign [tg] e pos) (tAsg te g) := by
 intro pins s σ H D I h
 refine wpAny_Assign_stores (thn (he pins s σ H _ I h) fun v s1 ⟨x, H1, I1, r1, q1⟩ => ?_) hs hw
 rw [h1]
 exact thn (hg pins s1 σ H1 x v _ I1 r1 q1) fun _ s2 q => q
theorem Zdb {i : Nat} {x : Str} {e : Expr} {te : TE} {pos' : Pos} (hN : X.N.Nodup) (hi : X.N[i]? = some x) (hx : Loc X.env.scope x) (he : PE X e te) (hs : swapsWith e (some (.Name x pos')) pos.line X.env = pure false := by rfl) (hf : X.fn x = true \/ X.env.scope.names.lookup x = some .local := by first | exact .inl rfl | exact .inr rfl | assumption) :
  PS X (.Assign [.Name x pos'] e pos) (tAsg te (ZdQ i)) := by
 intro pins s σ H D I h
 refine wpAny_Assign_Name (thn (he pins s σ H _ I h) fun v s1 ⟨y, H1, I1, r1, q1⟩ => ?_) hs
 exact ZgH I1 hN hi hx r1 (fun s2 I2 => ⟨_, H1, I2, q1⟩) hf
end
section
variable {X : Cx} {pos : Pos}
end
structure It where
 go : Nat -> Hp -> Prop
 yld : Nat -> Hp -> V -> Hp -> Prop
 stop : Nat -> Hp -> Prop
noncomputable def FpOk (X : Cx) (pins : List (Addr × Obj)) (H : Hp) (b : Addr) : Prop :=
 H b = none /\ b ≠ X.env.locals /\ b ∉ X.fs /\ (b ∈ X.ex \/ X.s₀.heap.objs.size <= b) /\ (∀ x c, X.env.cells.lookup x = some c -> c ≠ b) /\ ∀ p ∈ X.pn ++ pins, p.1 ≠ b
theorem Inv.fpOk {X : Cx} {pins : List (Addr × Obj)} {σ : St} {H H' : Hp} {s : Shared} {b : Addr} (I : Inv X pins σ H s) (hb : s.heap.objs.size <= b) (hn : H' b = none) : FpOk X pins H' b := by
 refine ⟨hn, Nat.ne_of_gt (Nat.lt_of_lt_of_le I.lt hb), I.nofs hb, .inr (Nat.le_trans I.sz hb), fun x c e z => ?_, fun p hp z => ?_⟩
 ·obtain ⟨v, q⟩ := I.cell x c e
  exact absurd (Nat.lt_of_lt_of_le q.lt (by rw [z]; exact hb)) (Nat.lt_irrefl _)
 ·exact absurd (Nat.lt_of_lt_of_le (Heap.lt_size (I.pin p hp).1) (by rw [z]; exact hb)) (Nat.lt_irrefl _)
structure Turn (P : Program) (w : World) (K : PySem.W.Frag) (tg : Expr) (J : It) (fp : List Addr) (it : Addr) (tn : Nat -> Heap -> Prop) : Prop where
 mem : it ∈ fp
 obj : ∀ i h, tn i h -> ∀ b ∈ fp, ∃ o, h.get? b = some o /\ ∀ v, o.data ≠ .cell v
 keep : ∀ i h h', tn i h -> (∀ b ∈ fp, ∀ o, h.get? b = some o -> h'.get? b = some o) -> tn i h'
 item : ∀ (X : Cx), X.prog = P -> X.w = w -> X.K = K -> X.calm = true -> ∀ (i : Nat) (pins : List (Addr × Obj)) (s : Shared) (σ : St) (H : Hp) (E : Value -> Shared -> Prop), Inv X pins σ H s -> (∀ b ∈ fp, FpOk X pins H b) -> tn i s.heap -> J.go i H ->
  wpAny (model P w) X.A (pyNext (.ref it)) (fun r s1 => ∃ u, r = some u /\
   wpAny (model P w) X.A (letOwnedTupleGo tg (.ref it) u) (fun _ s2 => ∃ x H', Inv X pins σ H' s2 /\ RelV x u /\ J.yld i H x H' /\ tn (i + 1) s2.heap /\ ∀ b ∈ fp, H' b = none) E s1) E s
 done : ∀ (X : Cx), X.prog = P -> X.w = w -> X.K = K -> X.calm = true -> ∀ (i : Nat) (pins : List (Addr × Obj)) (s : Shared) (σ : St) (H : Hp) (E : Value -> Shared -> Prop), Inv X pins σ H s -> (∀ b ∈ fp, FpOk X pins H b) -> tn i s.heap -> J.stop i H ->
  wpAny (model P w) X.A (pyNext (.ref it)) (fun r s1 => r = none /\ Inv X pins σ H s1) E s
 self : ∀ (A : Around) (i : Nat) (s : Shared) (Q : Value -> Shared -> Prop) (E : Value -> Shared -> Prop), tn i s.heap -> Q (.ref it) s -> wpAny (model P w) A (pyIter (.ref it)) Q E s
noncomputable abbrev TI := St -> Hp -> (It -> Hp -> Prop) -> Prop
noncomputable def PIE (X : Cx) (pins : List (Addr × Obj)) (σ : St) (tg : Expr) (R : It -> Hp -> Prop) (itv : Value) (s2 : Shared) : Prop :=
 ∃ (it : Addr) (fp : List Addr) (tn : Nat -> Heap -> Prop) (J : It) (H' : Hp), itv = .ref it /\ Inv X pins σ H' s2 /\ Turn X.prog X.w X.K tg J fp it tn /\ tn 0 s2.heap /\ (∀ b ∈ fp, FpOk X pins H' b) /\ R J H'
noncomputable def PI (X : Cx) (tg iter : Expr) (wi : TI) : Prop :=
 ∀ (pins : List (Addr × Obj)) (s : Shared) (σ : St) (H : Hp) (R : It -> Hp -> Prop), Inv X pins σ H s -> wi σ H R ->
  wpAny (model X.prog X.w) X.A (eval iter X.env) (fun v s1 => wpAny (model X.prog X.w) X.A (pyIter v) (PIE X pins σ tg R) X.xe s1) X.xe s
theorem ZkH {M : Model} {A : Around} {E : Value -> Shared -> Prop} {s : Shared} {tg : Expr} {it : Addr} {u : Value} {o : Obj} {n : String} {vs : Array Value} {Q : Unit -> Shared -> Prop} (ho : s.heap.get? it = some o) (hc : o.cls = .type n) (hd : o.data = .fields vs)
    (hn : ["enumerate", "zip", "dict_itemiterator", "dict_reverseitemiterator", "odict_iterator", "itertools.zip_longest", "itertools.pairwise"].contains n = false) (hQ : Q () s) : wpAny M A (letOwnedTupleGo tg (.ref it) u) Q E s := by
  unfold letOwnedTupleGo
  cases tg <;> first
    | exact wpAny_pure hQ
    | (cases u <;> first
        | exact wpAny_pure hQ
        | (refine wpAny_bind (wpAny_load ho ?_)
           rw [hc, hd]
           show wpAny M A (if (["enumerate", "zip", "dict_itemiterator", "dict_reverseitemiterator", "odict_iterator", "itertools.zip_longest", "itertools.pairwise"].contains n && vs[0]? == some (rawInt _)) = true then _ else _) Q E s
           rw [if_neg (by intro h; rw [hn, Bool.false_and] at h; cases h)]
           exact wpAny_pure hQ))
noncomputable def Itl (K : PySem.W.Frag) (a : Addr) : It :=
 ⟨fun i H => ∃ xs x, SqL K H a xs /\ xs[i]? = some x, fun i H x H' => H' = H /\ ∀ xs, SqL K H a xs -> xs[i]? = some x, fun i H => ∃ xs, SqL K H a xs /\ xs.length <= i⟩
noncomputable def Itt (K : PySem.W.Frag) (a : Addr) : It :=
 ⟨fun i H => ∃ xs x, SqT K H a xs /\ xs[i]? = some x, fun i H x H' => H' = H /\ ∀ xs, SqT K H a xs -> xs[i]? = some x, fun i H => ∃ xs, SqT K H a xs /\ xs.length <= i⟩
noncomputable def Itr (lo : Int) (n : Nat) : It := ⟨fun i _ => i < n, fun i H x H' => H' = H /\ x = .int (lo + i), fun i _ => n <= i⟩
theorem ZhZ {P : Program} {w : World} {K : PySem.W.Frag} {tg : Expr} (a it : Addr) : Turn P w K tg (Itl K a) [it] it (fun i h => h.IsListIter it a i) where
 mem := by simp
 obj := fun i h st b hb => by
  have e : b = it := by simpa using hb
  subst e
  obtain ⟨o, e, c, d⟩ := st
  exact ⟨o, e, fun v z => by rw [d] at z; cases z⟩
 keep := fun i h h' st k => st.at fun o e => k it (by simp) o e
 item := by
  intro X hP hw hK hc i pins s σ H E I hf st hg
  subst hP hw hK
  obtain ⟨xs, x, hq, hx⟩ := hg
  obtain ⟨its, rv, p, hz⟩ := I.list hq
  obtain ⟨u, hu, ru⟩ := rv.get hx
  obtain ⟨f0, f1, f2, f3, f4, f5⟩ := hf it (by simp)
  refine wpAny_pyNext_list_item st p.isList (x := u) (by simpa using hu) fun h' st' sb => ?_
  have I1 : Inv X pins σ H { s with heap := h' } := I.turned (t' := s.toks) (fun b o hb e => (sb.2 b hb).trans e) f0 f1 f3 f4 f5
  obtain ⟨o, e, c, d⟩ := id st'
  exact ⟨u, rfl, ZkH (s := { s with heap := h' }) e c d (by decide) ⟨x, H, I1, ru, ⟨rfl, fun ys hy => by rw [I.list_inj hy hq]; exact hx⟩, st', fun b hb => (hf b hb).1⟩⟩
 done := by
  intro X hP hw hK hc i pins s σ H E I hf st hg
  subst hP hw hK
  obtain ⟨xs, hq, hx⟩ := hg
  obtain ⟨its, rv, p, hz⟩ := I.list hq
  obtain ⟨f0, f1, f2, f3, f4, f5⟩ := hf it (by simp)
  have hl := rv.length
  exact wpAny_pyNext_list_end (I.ok.hd hc) st p.isList (by simp; lia) fun h' eb => ⟨rfl, I.turned (t' := s.toks) (fun b o hb e => eb b o hb e) f0 f1 f3 f4 f5⟩
 self := fun _ _ _ _ _ st h => wpAny_pyIter_listiter st h
theorem Zhn {P : Program} {w : World} {K : PySem.W.Frag} {tg : Expr} (a it : Addr) : Turn P w K tg (Itt K a) [it] it (fun i h => h.IsTupleIter it a i) where
 mem := by simp
 obj := fun i h st b hb => by
  have e : b = it := by simpa using hb
  subst e
  obtain ⟨o, e, c, d⟩ := st
  exact ⟨o, e, fun v z => by rw [d] at z; cases z⟩
 keep := fun i h h' st k => st.at fun o e => k it (by simp) o e
 item := by
  intro X hP hw hK hc i pins s σ H E I hf st hg
  subst hP hw hK
  obtain ⟨xs, x, hq, hx⟩ := hg
  obtain ⟨its, rv, p, hz⟩ := I.tuple hq
  obtain ⟨u, hu, ru⟩ := rv.get hx
  obtain ⟨f0, f1, f2, f3, f4, f5⟩ := hf it (by simp)
  refine wpAny_pyNext_tuple_item st (show s.heap.IsTuple a its.toArray from p) (x := u) (by simpa using hu) fun h' st' sb => ?_
  have I1 : Inv X pins σ H { s with heap := h' } := I.turned (t' := s.toks) (fun b o hb e => (sb.2 b hb).trans e) f0 f1 f3 f4 f5
  obtain ⟨o, e, c, d⟩ := id st'
  exact ⟨u, rfl, ZkH (s := { s with heap := h' }) e c d (by decide) ⟨x, H, I1, ru, ⟨rfl, fun ys hy => by rw [I.tuple_inj hy hq]; exact hx⟩, st', fun b hb => (hf b hb).1⟩⟩
 done := by
  intro X hP hw hK hc i pins s σ H E I hf st hg
  subst hP hw hK
  obtain ⟨xs, hq, hx⟩ := hg
  obtain ⟨its, rv, p, hz⟩ := I.tuple hq
  obtain ⟨f0, f1, f2, f3, f4, f5⟩ := hf it (by simp)
  have hl := rv.length
  exact wpAny_pyNext_tuple_end (I.ok.hd hc) st (show s.heap.IsTuple a its.toArray from p) (by simp; lia) fun h' eb => ⟨rfl, I.turned (t' := s.toks) (fun b o hb e => eb b o hb e) f0 f1 f3 f4 f5⟩
 self := fun _ _ _ _ _ st h => wpAny_pyIter_tupleiter st h
theorem Zho {P : Program} {w : World} {K : PySem.W.Frag} {tg : Expr} (it : Addr) (lo : Int) (n : Nat) : Turn P w K tg (Itr lo n) [it] it (fun i h => IsRangeIter h it (lo + (i : Nat) * 1) ((n : Int) - (i : Nat)) 1) where
 mem := by simp
 obj := fun i h st b hb => by
  have e : b = it := by simpa using hb
  subst e
  exact ⟨_, st, fun v z => by
   have z' : Data.fields _ = Data.cell v := z
   cases z'⟩
 keep := fun i h h' st k => k it (by simp) _ st
 item := by
  intro X hP hw hK hc i pins s σ H E I hf st hg
  subst hP hw hK
  obtain ⟨f0, f1, f2, f3, f4, f5⟩ := hf it (by simp)
  have W := Walks.range (prog := X.prog) (w := X.w) (I.ok.hd hc) it lo 1 n
  refine W.item i s _ _ hg st fun v h' tk hv st' kk => ?_
  obtain ⟨t, rfl⟩ := hv
  have I1 : Inv X pins σ H { s with heap := h', toks := tk } := I.turned (fun b o hb e => kk b o (by simpa using hb) e) f0 f1 f3 f4 f5
  refine ⟨_, rfl, ZkH (s := { s with heap := h', toks := tk }) (n := "range_iterator") st' rfl rfl (by decide) ⟨.int (lo + i), H, I1, ⟨t, ?_⟩, ⟨rfl, rfl⟩, st', fun b hb => (hf b hb).1⟩⟩
  rw [Int.mul_one]
 done := by
  intro X hP hw hK hc i pins s σ H E I hf st hg
  subst hP hw hK
  obtain ⟨f0, f1, f2, f3, f4, f5⟩ := hf it (by simp)
  exact wpAny_pyNext_range_end (I.ok.hd hc) st (by have : n <= i := hg; lia) fun h' eb => ⟨rfl, I.turned (t' := s.toks) (fun b o hb e => eb b o hb e) f0 f1 f3 f4 f5⟩
 self := fun _ _ _ _ _ st h => wpAny_pyIter_rangeiter st h
end L2
namespace L2
open PySem PySem.Spec PyProof.Rows
section
variable {X : Cx} {tg : Expr}
noncomputable def ZmG (K : PySem.W.Frag) (tl : TE) : TI := fun σ H R => tl σ H fun x H1 => ∃ a, x = .ref a /\ (∃ xs, SqL K H1 a xs) /\ R (Itl K a) H1
noncomputable def iTup (K : PySem.W.Frag) (tl : TE) : TI := fun σ H R => tl σ H fun x H1 => ∃ a, x = .ref a /\ (∃ xs, SqT K H1 a xs) /\ R (Itt K a) H1
theorem Zmh {l : Expr} {tl : TE} (hl : PE X l tl) : PI X tg l (ZmG X.K tl) := by
 intro pins s σ H R I h
 refine thn (hl pins s σ H _ I h) fun v s1 ⟨x, H1, I1, r1, q1⟩ => ?_
 obtain ⟨a, e, ⟨xs, hq⟩, q⟩ := q1
 subst e
 cases r1
 obtain ⟨its, rv, p, hz⟩ := I1.list hq
 refine wpAny_pyIter_list p.isList ?_
 refine ⟨s1.heap.objs.size, [s1.heap.objs.size], _, _, H1, rfl, I1.kept (t' := s1.toks) fun b o e => Heap.get?_push_of_some _ e, ZhZ a _, ⟨_, Heap.get?_push_size _ rfl, rfl, rfl⟩, fun b hb => ?_, q⟩
 have e : b = s1.heap.objs.size := by simpa using hb
 subst e
 exact I1.fpOk (Nat.le_refl _) (I1.hok.fresh (Nat.le_refl _))
theorem pi_tup {l : Expr} {tl : TE} (hl : PE X l tl) : PI X tg l (iTup X.K tl) := by
 intro pins s σ H R I h
 refine thn (hl pins s σ H _ I h) fun v s1 ⟨x, H1, I1, r1, q1⟩ => ?_
 obtain ⟨a, e, ⟨xs, hq⟩, q⟩ := q1
 subst e
 cases r1
 obtain ⟨its, rv, p, hz⟩ := I1.tuple hq
 refine wpAny_pyIter_tuple (show s1.heap.IsTuple a its.toArray from p) ?_
 refine ⟨s1.heap.objs.size, [s1.heap.objs.size], _, _, H1, rfl, I1.kept (t' := s1.toks) fun b o e => Heap.get?_push_of_some _ e, Zhn a _, ⟨_, Heap.get?_push_size _ rfl, rfl, rfl⟩, fun b hb => ?_, q⟩
 have e : b = s1.heap.objs.size := by simpa using hb
 subst e
 exact I1.fpOk (Nat.le_refl _) (I1.hok.fresh (Nat.le_refl _))
theorem Zkk {pins : List (Addr × Obj)} {σ : St} {H : Hp} {s : Shared} {R : It -> Hp -> Prop} {E : Value -> Shared -> Prop} {lo hi : Int} {t u v : Tok} {tk : Nat} (I : Inv X pins σ H s) (h1 : -(2 ^ 62) <= lo) (h2 : lo < 2 ^ 62) (h3 : -(2 ^ 62) <= hi) (h4 : hi < 2 ^ 62)
  (q : R (Itr lo (hi - lo).toNat) H) : wpAny (model X.prog X.w) X.A (pyIter (.ref s.heap.objs.size)) (PIE X pins σ tg R) E { s with heap := s.heap.push { cls := .type "range", data := .fields #[.int lo t, .int hi u, .int 1 v] }, toks := tk } := by
 refine wpAny_pyIter_range (IsRange.new ..) (small_one h1 h2 h3 h4) ?_
 have I1 : Inv X pins σ H { s with heap := s.heap.push { cls := .type "range", data := .fields #[.int lo t, .int hi u, .int 1 v] }, toks := tk } := I.kept fun b o e => Heap.get?_push_of_some _ e
 refine ⟨(s.heap.push { cls := .type "range", data := .fields #[.int lo t, .int hi u, .int 1 v] }).objs.size, [(s.heap.push { cls := .type "range", data := .fields #[.int lo t, .int hi u, .int 1 v] }).objs.size], _, _, H, rfl,
  I1.kept (t' := tk) fun b o e => Heap.get?_push_of_some _ e, Zho _ lo (hi - lo).toNat, ?_, fun b hb => ?_, q⟩
 ·have e1 : lo + ((0 : Nat) : Int) * 1 = lo := by simp
  have e2 : (((hi - lo).toNat : Nat) : Int) - ((0 : Nat) : Int) = Builtin.Range.rangeSize lo hi 1 := by rw [rangeSize_one]; split <;> lia
  show IsRangeIter _ _ (lo + ((0 : Nat) : Int) * 1) ((((hi - lo).toNat : Nat) : Int) - ((0 : Nat) : Int)) 1
  rw [e1, e2]
  exact Heap.get?_push_size _ rfl
 ·have e : b = (s.heap.push { cls := .type "range", data := .fields #[.int lo t, .int hi u, .int 1 v] }).objs.size := by simpa using hb
  subst e
  exact I1.fpOk (Nat.le_refl _) (I1.hok.fresh (Nat.le_refl _))
noncomputable def ZmF (ta : TA) : TI := fun σ H R => ta σ H fun vs H1 => ∃ j : Int, vs = [.int j] /\ -(2 ^ 62) <= j /\ j < 2 ^ 62 /\ R (Itr 0 j.toNat) H1
theorem ZbQ {a : Expr} {ta : TA} {p pos : Pos} (hg : Gl X "range") (hm : X.mg "range" = none) (ha : PA X [a] ta) (hs : starEach [a] X.env = [(false, eval a X.env)] := by rfl) : PI X tg (.Call (.Name "range" p) [a] [] pos) (ZmF ta) := by
  intro pins s σ H R I h
  refine Call_ (Zfz I hg hm boot_range (PyProof.Rows.callWith_type1 (thn (ha pos pins s σ H _ I h) fun us s1 ⟨vs, H1, I1, r1, q1⟩ => ?_) hs rfl))
  obtain ⟨j, e, q1, q2, q⟩ := q1
  subst e
  cases r1 with
  | cons r rr =>
    cases rr
    obtain ⟨t, rfl⟩ := r
    exact call_range_1 (Zkk I1 (by lia) (by lia) q1 q2 (by simpa using q))
noncomputable def tFor (wi : TI) (g : TG) (tb : TS) : TS := fun D σ H => wi σ H fun J H1 => ∃ W : Nat -> Nat -> St -> Hp -> Prop, (∃ m, W 0 m σ H1) /\ ∀ i m σ H, W i m σ H ->
 (J.stop i H /\ D.nx σ H) \/ (J.go i H /\ ∃ N : St -> Hp -> Prop, (∀ σ' H', N σ' H' -> ∃ m', m' < m /\ W (i + 1) m' σ' H') /\ ∀ x H', J.yld i H x H' -> g x σ H' fun σ2 H2 => tb { D with nx := N, ct := N, bk := D.nx } σ2 H2)
noncomputable def Zb8 (fp : List Addr) (h : Heap) : List (Addr × Obj) := fp.filterMap fun b => (h.get? b).map fun o => (b, o)
theorem Zcr {fp : List Addr} {h : Heap} {b : Addr} {o : Obj} (hb : b ∈ fp) (e : h.get? b = some o) : (b, o) ∈ Zb8 fp h := List.mem_filterMap.mpr ⟨b, hb, by rw [e]; rfl⟩
theorem Zfu {fp : List Addr} {h : Heap} {p : Addr × Obj} (hp : p ∈ Zb8 fp h) : p.1 ∈ fp /\ h.get? p.1 = some p.2 := by
  obtain ⟨b, hb, e⟩ := List.mem_filterMap.mp hp
  cases q : h.get? b with
  | none => rw [q] at e; cases e
  | some o =>
    rw [q] at e
    have e' : (b, o) = p := Option.some.inj e
    subst e'
    exact ⟨hb, q⟩
theorem Inv.pinned {pins : List (Addr × Obj)} {σ : St} {H : Hp} {s : Shared} {fp : List Addr} (I : Inv X pins σ H s) (hf : ∀ b ∈ fp, FpOk X pins H b) (ho : ∀ b ∈ fp, ∃ o, s.heap.get? b = some o /\ ∀ v, o.data ≠ .cell v) : Inv X (pins ++ Zb8 fp s.heap) σ H s :=
 I.pins_of fun p hp => (List.mem_append.mp hp).elim (fun z => I.pin p (List.mem_append_right _ z)) fun z => by
  obtain ⟨hb, e⟩ := Zfu z
  obtain ⟨f0, f1, f2, _⟩ := hf p.1 hb
  obtain ⟨o, e', d⟩ := ho p.1 hb
  rw [e] at e'; cases e'
  exact ⟨e, f0, f1, f2, d⟩
theorem Inv.unpinned {pins pl : List (Addr × Obj)} {σ : St} {H : Hp} {s : Shared} (I : Inv X (pins ++ pl) σ H s) : Inv X pins σ H s := I.pins_of fun p hp => I.pin p (List.mem_append_right _ (List.mem_append_left _ hp))
theorem ZcA {iter : Expr} {body : List Stmt} {wi : TI} {g : TG} {tb : TS} {pos : Pos} (hp : PassesOwn (model X.prog X.w) X.A X.env X.xe) (hc : X.calm = true) (hi : PI X tg iter wi) (hg : PG X tg g) (hb : PSs X body tb)
  (hs : ∀ x, foldedSetIterable iter X.env x = pure x := by intro _; rfl) : PS X (.For tg iter body [] pos) (tFor wi g tb) := by
 intro pins s σ H D I h
 refine wpAny_For (thn (hi pins s σ H _ I h) fun v s1 h1 => thn h1 fun itv s2 h2 => ?_) hs
 obtain ⟨it, fp, tn, J, H2, e, I2, T, st2, f2, W, ⟨m0, w0⟩, turn⟩ := h2
 subst e
 have stat : ∀ {H' : Hp}, (∀ b ∈ fp, H' b = none) -> ∀ b ∈ fp, FpOk X pins H' b := fun hn b hb => ⟨hn b hb, (f2 b hb).2⟩
 refine codeAny_forLoop_any (fun n s' => ∃ i σ' H', Inv X pins σ' H' s' /\ tn i s'.heap /\ (∀ b ∈ fp, H' b = none) /\ W i n σ' H') ?_ m0 ⟨0, σ, H2, I2, st2, fun b hb => (f2 b hb).1, w0⟩
 rintro n s3 ⟨i, σ3, H3, I3, st3, fr3, w3⟩
 rcases turn i n σ3 H3 w3 with ⟨stop, qn⟩ | ⟨go, N, hN, step⟩
 ·refine wpAny_passesOwn hp (thn (T.done X rfl rfl rfl hc i pins s3 σ3 H3 X.xe I3 (stat fr3) st3 stop) fun r s4 ⟨hr, I4⟩ => ?_)
  subst hr
  exact wpAny_execs_nil ⟨σ3, H3, I4, qn⟩
 ·refine wpAny_passesOwn hp (thn (T.item X rfl rfl rfl hc i pins s3 σ3 H3 X.xe I3 (stat fr3) st3 go) fun r s4 ⟨u, hr, h4⟩ => ?_)
  subst hr
  refine wpAny_passesOwn hp (thn h4 fun _ s5 ⟨x, H5, I5, r5, y5, st5, fr5⟩ => ?_)
  have I5' := I5.pinned (stat fr5) (T.obj _ _ st5)
  refine wpAny_passesOwn hp (thn (hg _ s5 σ3 H5 x u _ I5' r5 (step x H5 y5)) fun _ s6 ⟨σ6, H6, I6, q6⟩ => ?_)
  refine wpAny_passesOwn hp (thn (hb _ s6 σ6 H6 _ I6 q6) fun f s7 q7 => ?_)
  have again : ∀ {σ7 : St} {H7 : Hp}, Inv X (pins ++ Zb8 fp s5.heap) σ7 H7 s7 -> N σ7 H7 -> ∃ m, m < n /\ ∃ i σ' H', Inv X pins σ' H' s7 /\ tn i s7.heap /\ (∀ b ∈ fp, H' b = none) /\ W i m σ' H' := fun {σ7 H7} I7 n7 => by
   obtain ⟨m', hm, w7⟩ := hN σ7 H7 n7
   refine ⟨m', hm, i + 1, σ7, H7, I7.unpinned, T.keep _ _ _ st5 fun b hb o e => (I7.pin (b, o) (List.mem_append_right _ (List.mem_append_right _ (Zcr hb e)))).1, fun b hb => ?_, w7⟩
   obtain ⟨o, e, d⟩ := T.obj _ _ st5 b hb
   exact (I7.pin (b, o) (List.mem_append_right _ (List.mem_append_right _ (Zcr hb e)))).2.1
  cases f with
  | next => obtain ⟨σ7, H7, I7, n7⟩ := q7; exact again I7 n7
  | cont => obtain ⟨σ7, H7, I7, n7⟩ := q7; exact again I7 n7
  | brk => obtain ⟨σ7, H7, I7, q7⟩ := q7; exact ⟨σ7, H7, I7.unpinned, q7⟩
  | ret v => obtain ⟨x7, σ7, H7, I7, r7, q7⟩ := q7; exact ⟨x7, σ7, H7, I7.unpinned, r7, q7⟩
end
theorem Zdi {K : PySem.W.Frag} {a : Addr} {xs : List V} {g : TG} {tb : TS} {D : Ends} {σ : St} {H : Hp} (Pv : Nat -> St -> Hp -> Prop) (h0 : Pv 0 σ H) (hl : ∀ i σ H, i <= xs.length -> Pv i σ H -> SqL K H a xs)
  (hs : ∀ i x σ H, xs[i]? = some x -> Pv i σ H -> g x σ H fun σ2 H2 => tb { D with nx := Pv (i + 1), ct := Pv (i + 1), bk := D.nx } σ2 H2) (hd : ∀ σ H, Pv xs.length σ H -> D.nx σ H) :
  ∃ W : Nat -> Nat -> St -> Hp -> Prop, (∃ m, W 0 m σ H) /\ ∀ i m σ H, W i m σ H ->
   ((Itl K a).stop i H /\ D.nx σ H) \/ ((Itl K a).go i H /\ ∃ N : St -> Hp -> Prop, (∀ σ' H', N σ' H' -> ∃ m', m' < m /\ W (i + 1) m' σ' H') /\ ∀ x H', (Itl K a).yld i H x H' -> g x σ H' fun σ2 H2 => tb { D with nx := N, ct := N, bk := D.nx } σ2 H2) := by
 refine ⟨fun i m σ H => m = xs.length - i /\ i <= xs.length /\ Pv i σ H, ⟨xs.length, by simp, Nat.zero_le _, h0⟩, ?_⟩
 rintro i m σ H ⟨rfl, hi, p⟩
 have q := hl i σ H hi p
 by_cases hlt : i < xs.length
 ·refine .inr ⟨⟨xs, xs[i], q, by simp [hlt]⟩, Pv (i + 1), fun σ' H' p' => ⟨xs.length - (i + 1), by lia, rfl, hlt, p'⟩, fun x H' y => ?_⟩
  obtain ⟨e, y⟩ := y
  subst e
  exact hs i x σ _ (y xs q) p
 ·have e : i = xs.length := by lia
  subst e
  exact .inl ⟨⟨xs, q, Nat.le_refl _⟩, hd σ H p⟩
theorem Zcu {lo : Int} {n : Nat} {g : TG} {tb : TS} {D : Ends} {σ : St} {H : Hp} (Pv : Nat -> St -> Hp -> Prop) (h0 : Pv 0 σ H)
  (hs : ∀ i σ H, i < n -> Pv i σ H -> g (.int (lo + i)) σ H fun σ2 H2 => tb { D with nx := Pv (i + 1), ct := Pv (i + 1), bk := D.nx } σ2 H2) (hd : ∀ σ H, Pv n σ H -> D.nx σ H) :
  ∃ W : Nat -> Nat -> St -> Hp -> Prop, (∃ m, W 0 m σ H) /\ ∀ i m σ H, W i m σ H ->
   ((Itr lo n).stop i H /\ D.nx σ H) \/ ((Itr lo n).go i H /\ ∃ N : St -> Hp -> Prop, (∀ σ' H', N σ' H' -> ∃ m', m' < m /\ W (i + 1) m' σ' H') /\ ∀ x H', (Itr lo n).yld i H x H' -> g x σ H' fun σ2 H2 => tb { D with nx := N, ct := N, bk := D.nx } σ2 H2) := by
 refine ⟨fun i m σ H => m = n - i /\ i <= n /\ Pv i σ H, ⟨n, by simp, Nat.zero_le _, h0⟩, ?_⟩
 rintro i m σ H ⟨rfl, hi, p⟩
 by_cases hlt : i < n
 ·refine .inr ⟨hlt, Pv (i + 1), fun σ' H' p' => ⟨n - (i + 1), by lia, rfl, hlt, p'⟩, fun x H' y => ?_⟩
  obtain ⟨e, y⟩ := y
  subst e y
  exact hs i σ _ hlt p
 ·have e : i = n := by lia
  subst e
  exact .inl ⟨Nat.le_refl _, hd σ H p⟩
end L2
namespace L2
open PySem PySem.Spec PyProof.Rows
noncomputable abbrev R2 := V -> V -> Hp -> VK -> Prop
noncomputable def OpR (X : Cx) (f : Value -> Value -> Sem Value) (r : R2) : Prop :=
 ∀ (pins : List (Addr × Obj)) (s : Shared) (σ : St) (H : Hp) (x y : V) (v u : Value) (Q : VK), Inv X pins σ H s -> RelV x v -> RelV y u -> r x y H Q ->
  wpAny (model X.prog X.w) X.A (f v u) (EP X pins σ Q) X.xe s
noncomputable def UnR (X : Cx) (f : Value -> Sem Value) (r : V -> Hp -> VK -> Prop) : Prop :=
 ∀ (pins : List (Addr × Obj)) (s : Shared) (σ : St) (H : Hp) (x : V) (v : Value) (Q : VK), Inv X pins σ H s -> RelV x v -> r x H Q ->
  wpAny (model X.prog X.w) X.A (f v) (EP X pins σ Q) X.xe s
noncomputable def ZbU (X : Cx) (f : Value) (r : List V -> Hp -> VK -> Prop) : Prop :=
 ∀ (pins : List (Addr × Obj)) (s : Shared) (σ : St) (H : Hp) (xs : List V) (us : List Value) (Q : VK), Inv X pins σ H s -> Vals xs us -> r xs H Q ->
  wpAny (model X.prog X.w) X.A (call f us) (EP X pins σ Q) X.xe s
noncomputable def tOp (r : R2) (ta tb : TE) : TE := fun σ H Q => ta σ H fun x H1 => tb σ H1 fun y H2 => r x y H2 Q
noncomputable def tUn (r : V -> Hp -> VK -> Prop) (ta : TE) : TE := fun σ H Q => ta σ H fun x H1 => r x H1 Q
noncomputable def rI (C : Int -> Int -> Prop) (g : Int -> Int -> V) : R2 := fun x y H Q => ∃ i j, x = .int i /\ y = .int j /\ C i j /\ Q (g i j) H
noncomputable def rI0 (g : Int -> Int -> V) : R2 := fun x y H Q => ∃ i j, x = .int i /\ y = .int j /\ Q (g i j) H
noncomputable def rU (g : Int -> V) : V -> Hp -> VK -> Prop := fun x H Q => ∃ i, x = .int i /\ Q (g i) H
section
variable {X : Cx} {a b c : Expr} {ta tb tc : TE} {pos : Pos}
theorem binT (ha : PE X a ta) (hb : PE X b tb) {pins : List (Addr × Obj)} {s : Shared} {σ : St} {H : Hp} {R : V -> V -> Hp -> Prop} (I : Inv X pins σ H s)
  (h : ta σ H fun x H1 => tb σ H1 fun y H2 => R x y H2) {Q : Value -> Shared -> Prop} {f : Value -> Value -> Sem Value}
  (hf : ∀ v u s2 x y H2, Inv X pins σ H2 s2 -> RelV x v -> RelV y u -> R x y H2 -> wpAny (model X.prog X.w) X.A (f v u) Q X.xe s2) :
  wpAny (model X.prog X.w) X.A (eval a X.env) (fun v s₁ => wpAny (model X.prog X.w) X.A (eval b X.env) (fun u s₂ => wpAny (model X.prog X.w) X.A (f v u) Q X.xe s₂) X.xe s₁) X.xe s := by
 refine thn (ha pins s σ H _ I h) fun v s1 ⟨x, H1, I1, r1, q1⟩ => ?_
 refine thn (hb pins s1 σ H1 _ I1 q1) fun u s2 ⟨y, H2, I2, r2, q2⟩ => ?_
 exact hf v u s2 x y H2 I2 r1 r2 q2
theorem Zas {op : Operator} {r : R2} (ho : OpR X (binaryOp op) r) (ha : PE X a ta) (hb : PE X b tb) : PE X (.BinOp a op b pos) (tOp r ta tb) := by
 intro pins s σ H Q I h
 exact wpAny_BinOp (binT ha hb I h fun v u s2 x y H2 I2 rx ry q => ho pins s2 σ H2 x y v u Q I2 rx ry q)
theorem ZeZ {op : UnaryOp} {r : V -> Hp -> VK -> Prop} (ho : UnR X (unaryOp op) r) (ha : PE X a ta) : PE X (.UnaryOp op a pos) (tUn r ta) := by
 intro pins s σ H Q I h
 exact UnaryOp_ (thn (ha pins s σ H _ I h) fun v s1 ⟨x, H1, I1, r1, q1⟩ => ho pins s1 σ H1 x v Q I1 r1 q1)
theorem opI {f : Value -> Value -> Sem Value} {C : Int -> Int -> Prop} {g : Int -> Int -> Int}
  (rule : ∀ (i j : Int) (t u : Tok) (s : Shared) (Q : Value -> Shared -> Prop) (E : Value -> Shared -> Prop), C i j -> Q (.int (g i j) s.toks) { s with toks := s.toks + 1 } -> wpAny (model X.prog X.w) X.A (f (.int i t) (.int j u)) Q E s) :
  OpR X f (rI C fun i j => .int (g i j)) := by
 intro pins s σ H x y v u Q I rx ry h
 obtain ⟨i, j, rfl, rfl, hc, q⟩ := h
 obtain ⟨t, rfl⟩ := rx
 obtain ⟨t', rfl⟩ := ry
 exact rule i j t t' s _ _ hc ⟨.int (g i j), H, I.tok _, ⟨_, rfl⟩, q⟩
theorem opI0 {f : Value -> Value -> Sem Value} {g : Int -> Int -> Int}
  (rule : ∀ (i j : Int) (t u : Tok) (s : Shared) (Q : Value -> Shared -> Prop) (E : Value -> Shared -> Prop), Q (.int (g i j) s.toks) { s with toks := s.toks + 1 } -> wpAny (model X.prog X.w) X.A (f (.int i t) (.int j u)) Q E s) :
  OpR X f (rI0 fun i j => .int (g i j)) := by
 intro pins s σ H x y v u Q I rx ry h
 obtain ⟨i, j, rfl, rfl, q⟩ := h
 obtain ⟨t, rfl⟩ := rx
 obtain ⟨t', rfl⟩ := ry
 exact rule i j t t' s _ _ ⟨.int (g i j), H, I.tok _, ⟨_, rfl⟩, q⟩
theorem opB0 {f : Value -> Value -> Sem Value} {g : Int -> Int -> Bool}
  (rule : ∀ (i j : Int) (t u : Tok) (s : Shared) (Q : Value -> Shared -> Prop) (E : Value -> Shared -> Prop), Q (.bool (g i j)) s -> wpAny (model X.prog X.w) X.A (f (.int i t) (.int j u)) Q E s) :
  OpR X f (rI0 fun i j => .bl (g i j)) := by
 intro pins s σ H x y v u Q I rx ry h
 obtain ⟨i, j, rfl, rfl, q⟩ := h
 obtain ⟨t, rfl⟩ := rx
 obtain ⟨t', rfl⟩ := ry
 exact rule i j t t' s _ _ ⟨.bl (g i j), H, I, rfl, q⟩
noncomputable def CPow (i j : Int) : Prop := 0 <= j /\ j <= 1000000 /\ i.natAbs < 2 ^ 64
noncomputable def CMul (i j : Int) : Prop := (-(2 ^ 64) < i /\ i < 2 ^ 64) \/ (-(2 ^ 64) < j /\ j < 2 ^ 64)
theorem CMul.ok {i j : Int} (h : CMul i j) : IntMulOk i j := by
 rcases h with ⟨h1, h2⟩ | ⟨h1, h2⟩
 ·exact .of_left (intBits_le_64 h1 h2)
 ·exact .of_right (intBits_le_64 h1 h2)
theorem Za8 : OpR X (binaryOp .Add) (rI0 fun i j => .int (i + j)) := opI0 fun _ _ _ _ _ _ _ q => add_int q
theorem ZcI : OpR X (binaryOp .Sub) (rI0 fun i j => .int (i - j)) := opI0 fun _ _ _ _ _ _ _ q => sub_int q
theorem ZiN : OpR X (binaryOp .Mult) (rI CMul fun i j => .int (i * j)) := opI fun _ _ _ _ _ _ _ hc q => mul_int q hc.ok
theorem Zb2 : OpR X (binaryOp .Mod) (rI (fun _ j => 0 < j) fun i j => .int (i % j)) := opI fun i j _ _ _ _ _ hc q => by
 have h1 : (0 : Int) < j := hc
 exact mod_int' (by lia) (by rw [Int.fmod_eq_emod_of_nonneg i (by lia)]; exact q)
theorem Zg0 : OpR X (binaryOp .Pow) (rI CPow fun i j => .int (i ^ j.toNat)) := opI fun _ _ _ _ _ _ _ hc q => pow_int_small hc.1 hc.2.1 hc.2.2 q
theorem unI {f : Value -> Sem Value} {g : Int -> Int}
  (rule : ∀ (i : Int) (t : Tok) (s : Shared) (Q : Value -> Shared -> Prop) (E : Value -> Shared -> Prop), Q (.int (g i) s.toks) { s with toks := s.toks + 1 } -> wpAny (model X.prog X.w) X.A (f (.int i t)) Q E s) :
  UnR X f (rU fun i => .int (g i)) := by
 intro pins s σ H x v Q I rx h
 obtain ⟨i, rfl, q⟩ := h
 obtain ⟨t, rfl⟩ := rx
 exact rule i t s _ _ ⟨.int (g i), H, I.tok _, ⟨_, rfl⟩, q⟩
theorem Zc5 : UnR X (unaryOp .USub) (rU fun i => .int (-i)) := unI fun _ _ _ _ _ q => neg_int q
end
noncomputable def scal : V -> V -> Bool
 | .non, .non => true | .non, .int _ => true | .int _, .non => true | .non, .bl _ => true | .bl _, .non => true | .non, .str _ => true | .str _, .non => true
 | .int _, .int _ => true | .bl _, .bl _ => true | .str _, .str _ => true | .byt _, .byt _ => true
 | .int _, .str _ => true | .str _, .int _ => true | .bl _, .str _ => true | .str _, .bl _ => true
 | _, _ => false
noncomputable def rEq : R2 := fun x y H Q => scal x y = true /\ Q (.bl (decide (x = y))) H
noncomputable def rNe : R2 := fun x y H Q => scal x y = true /\ Q (.bl (!decide (x = y))) H
theorem Zfb {i j : Int} : decide (V.int i = V.int j) = (i == j) := by
 rw [Bool.eq_iff_iff]
 simp
theorem Zjn {i j : Bool} : decide (V.bl i = V.bl j) = (i == j) := by
 rw [Bool.eq_iff_iff]
 simp
theorem Zfa {i j : Str} : decide (V.str i = V.str j) = (i == j) := by
 rw [Bool.eq_iff_iff]
 simp
theorem Zjm {i j : Array UInt8} : decide (V.byt i = V.byt j) = (i.toList == j.toList) := by
 rw [Bool.eq_iff_iff]
 cases i
 cases j
 simp
section
variable {X : Cx} {a b c : Expr} {ta tb tc : TE} {pos : Pos}
theorem ZaU {pins : List (Addr × Obj)} {σ : St} {H : Hp} {s : Shared} {Q : VK} {k k' : Bool} (I : Inv X pins σ H s) (q : Q (.bl k) H) (e : k = k') : EP X pins σ Q (.bool k') s := by
 subst e
 exact ⟨.bl k, H, I, rfl, q⟩
theorem Za1 : OpR X (compareOp .Eq) rEq := by
  intro pins s σ H x y v u Q I rx ry h
  obtain ⟨hs, q⟩ := h
  cases x with
  | non =>
    cases rx
    cases y with
    | non => cases ry; exact PySem.EqNone.eq_none_none (ZaU I q (by simp))
    | bl j => cases ry; exact PySem.EqNone.eq_none_bool (ZaU I q (by simp))
    | int j => obtain ⟨t', rfl⟩ := ry; exact PySem.EqNone.eq_none_int (ZaU I q (by simp))
    | str j => obtain ⟨t', rfl⟩ := ry; exact PySem.EqNone.eq_none_str (ZaU I q (by simp))
    | _ => exact absurd (show false = true from hs) Bool.false_ne_true
  | bl i =>
    cases rx
    cases y with
    | non => cases ry; exact PySem.EqNone.eq_bool_none (ZaU I q (by simp))
    | bl j => cases ry; exact eq_bool (ZaU I q Zjn)
    | str j => obtain ⟨t', rfl⟩ := ry; exact PySem.EqMixed.eq_bool_str (ZaU I q (by simp))
    | _ => exact absurd (show false = true from hs) Bool.false_ne_true
  | int i =>
    obtain ⟨t, rfl⟩ := rx
    cases y with
    | non => cases ry; exact PySem.EqNone.eq_int_none (ZaU I q (by simp))
    | int j => obtain ⟨t', rfl⟩ := ry; exact eq_int (ZaU I q Zfb)
    | str j => obtain ⟨t', rfl⟩ := ry; exact PySem.EqMixed.eq_int_str (ZaU I q (by simp))
    | _ => exact absurd (show false = true from hs) Bool.false_ne_true
  | str i =>
    obtain ⟨t, rfl⟩ := rx
    cases y with
    | non => cases ry; exact PySem.EqNone.eq_str_none (ZaU I q (by simp))
    | bl j => cases ry; exact PySem.EqMixed.eq_str_bool (ZaU I q (by simp))
    | int j => obtain ⟨t', rfl⟩ := ry; exact PySem.EqMixed.eq_str_int (ZaU I q (by simp))
    | str j => obtain ⟨t', rfl⟩ := ry; exact eq_str (ZaU I q Zfa)
    | _ => exact absurd (show false = true from hs) Bool.false_ne_true
  | byt i =>
    obtain ⟨t, rfl⟩ := rx
    cases y with
    | byt j => obtain ⟨t', rfl⟩ := ry; exact PySem.W.eq_bytes (ZaU I q Zjm)
    | _ => exact absurd (show false = true from hs) Bool.false_ne_true
  | _ => cases y <;> exact absurd (show false = true from hs) Bool.false_ne_true
theorem Ze0 : OpR X (compareOp .NotEq) rNe := by
  intro pins s σ H x y v u Q I rx ry h
  obtain ⟨hs, q⟩ := h
  cases x with
  | non =>
    cases rx
    cases y with
    | non => cases ry; exact PySem.EqNone.ne_none_none (ZaU I q (by simp))
    | bl j => cases ry; exact PySem.EqNone.ne_none_bool (ZaU I q (by simp))
    | int j => obtain ⟨t', rfl⟩ := ry; exact PySem.EqNone.ne_none_int (ZaU I q (by simp))
    | str j => obtain ⟨t', rfl⟩ := ry; exact PySem.EqNone.ne_none_str (ZaU I q (by simp))
    | _ => exact absurd (show false = true from hs) Bool.false_ne_true
  | bl i =>
    cases rx
    cases y with
    | non => cases ry; exact PySem.EqNone.ne_bool_none (ZaU I q (by simp))
    | bl j => cases ry; exact ne_bool (ZaU I q (congrArg not Zjn))
    | str j => obtain ⟨t', rfl⟩ := ry; exact PySem.EqMixed.ne_bool_str (ZaU I q (by simp))
    | _ => exact absurd (show false = true from hs) Bool.false_ne_true
  | int i =>
    obtain ⟨t, rfl⟩ := rx
    cases y with
    | non => cases ry; exact PySem.EqNone.ne_int_none (ZaU I q (by simp))
    | int j => obtain ⟨t', rfl⟩ := ry; exact ne_int (ZaU I q (congrArg not Zfb))
    | str j => obtain ⟨t', rfl⟩ := ry; exact PySem.EqMixed.ne_int_str (ZaU I q (by simp))
    | _ => exact absurd (show false = true from hs) Bool.false_ne_true
  | str i =>
    obtain ⟨t, rfl⟩ := rx
    cases y with
    | non => cases ry; exact PySem.EqNone.ne_str_none (ZaU I q (by simp))
    | bl j => cases ry; exact PySem.EqMixed.ne_str_bool (ZaU I q (by simp))
    | int j => obtain ⟨t', rfl⟩ := ry; exact PySem.EqMixed.ne_str_int (ZaU I q (by simp))
    | str j => obtain ⟨t', rfl⟩ := ry; exact ne_str (ZaU I q (congrArg not Zfa))
    | _ => exact absurd (show false = true from hs) Bool.false_ne_true
  | byt i =>
    obtain ⟨t, rfl⟩ := rx
    cases y with
    | byt j => obtain ⟨t', rfl⟩ := ry; exact PySem.W.ne_bytes (ZaU I q (congrArg not Zjm))
    | _ => exact absurd (show false = true from hs) Bool.false_ne_true
  | _ => cases y <;> exact absurd (show false = true from hs) Bool.false_ne_true
theorem ZiO : OpR X (compareOp .Lt) (rI0 fun i j => .bl (decide (i < j))) := opB0 fun _ _ _ _ _ _ _ q => lt_int q
theorem Zdt : OpR X (compareOp .LtE) (rI0 fun i j => .bl (decide (i <= j))) := opB0 fun _ _ _ _ _ _ _ q => le_int q
theorem Zku : OpR X (compareOp .Gt) (rI0 fun i j => .bl (decide (j < i))) := opB0 fun _ _ _ _ _ _ _ q => gt_int q
theorem op_ge : OpR X (compareOp .GtE) (rI0 fun i j => .bl (decide (j <= i))) := opB0 fun _ _ _ _ _ _ _ q => ge_int q
theorem Zft : OpR X (compareOp .In) (fun x y H Q => ∃ i j, x = .str i /\ y = .str j /\ Q (.bl (!(Builtin.Str.occurrences j i 0 j.length 1).isEmpty)) H) := by
 intro pins s σ H x y v u Q I rx ry h
 obtain ⟨i, j, rfl, rfl, q⟩ := h
 obtain ⟨t, rfl⟩ := rx
 obtain ⟨t', rfl⟩ := ry
 exact in_str (ZaU I q rfl)
theorem op_isN : OpR X (compareOp .Is) (fun x y H Q => y = .non /\ Q (.bl (decide (x = .non))) H) := by
 intro pins s σ H x y v u Q I rx ry h
 obtain ⟨rfl, q⟩ := h
 cases ry
 refine is_none_gen (ZaU I q ?_)
 cases x <;> first
  | (cases rx; rfl)
  | (obtain ⟨t, rfl⟩ := rx; rfl)
theorem Zar (b : Expr) {op : CmpOp} (h : op ≠ .In := by decide) (h2 : op ≠ .NotIn := by decide) : behindInMarks op b = false := by
 have e1 : (op == CmpOp.In) = false := by cases op <;> first | rfl | exact absurd rfl h
 have e2 : (op == CmpOp.NotIn) = false := by cases op <;> first | rfl | exact absurd rfl h2
 cases b <;> simp [behindInMarks, e1, e2]
theorem Zcm {op : CmpOp} {r : R2} (ho : OpR X (compareOp op) r) (ha : PE X a ta) (hb : PE X b tb) (hm : behindInMarks op b = false) : PE X (.Compare a [op] [b] pos) (tOp r ta tb) := by
 intro pins s σ H Q I h
 exact wpAny_Compare1 (binT ha hb I h fun v u s2 x y H2 I2 rx ry q => ho pins s2 σ H2 x y v u Q I2 rx ry q) hm
noncomputable def Zhp (t : TE) : TT := fun σ H Q => t σ H fun x H' => ∃ k, x = .bl k /\ Q k H'
theorem Zal {op : CmpOp} {r : R2} (ho : OpR X (compareOp op) r) (ha : PE X a ta) (hb : PE X b tb) (hm : behindInMarks op b = false) : PT X (.Compare a [op] [b] pos) (Zhp (tOp r ta tb)) := by
 intro pins s σ H Q I h
 refine wpAny_isTrue_Compare1 (thn (ha pins s σ H _ I h) fun v s1 ⟨x, H1, I1, r1, q1⟩ => thn (hb pins s1 σ H1 _ I1 q1) fun u s2 ⟨y, H2, I2, r2, q2⟩ =>
  thn (ho pins s2 σ H2 x y v u _ I2 r1 r2 q2) fun c s3 ⟨z, H3, I3, r3, k, e, q3⟩ => ?_) hm
 subst e
 cases r3
 exact wpAny_truthy_bool ⟨H3, I3, q3⟩
noncomputable def Zh5 (r r' : R2) (ta tb tc : TE) : TE := fun σ H Q => ta σ H fun x H1 => tb σ H1 fun y H2 => r x y H2 fun z H3 => ∃ k, z = .bl k /\
 (if k = true then tc σ H3 fun w' H4 => r' y w' H4 Q else Q (.bl false) H3)
theorem Zdc {op op' : CmpOp} {r r' : R2} (ho : OpR X (compareOp op) r) (ho' : OpR X (compareOp op') r') (ha : PE X a ta) (hb : PE X b tb) (hc : PE X c tc)
  (hm : lastMarks [op, op'] [b, c] = false := by with_unfolding_all rfl) : PE X (.Compare a [op, op'] [b, c] pos) (Zh5 r r' ta tb tc) := by
 intro pins s σ H Q I h
 refine Compare_chain (thn (ha pins s σ H _ I h) fun v s1 ⟨x, H1, I1, r1, q1⟩ => chain_link (thn (hb pins s1 σ H1 _ I1 q1) fun u s2 ⟨y, H2, I2, r2, q2⟩ =>
  thn (ho pins s2 σ H2 x y v u _ I2 r1 r2 q2) fun d s3 ⟨z, H3, I3, r3, k, e, q3⟩ => ?_)) hm
 subst e
 cases r3
 refine wpAny_truthy_bool ?_
 cases k with
 | false => exact ite_ff ⟨.bl false, H3, I3, rfl, q3⟩
 | true => exact ite_tt (chain_last (thn (hc pins s3 σ H3 _ I3 q3) fun w' s4 ⟨z', H4, I4, r4, q4⟩ => ho' pins s4 σ H4 y z' u w' Q I4 r2 r4 q4))
theorem ZgT {op op' : CmpOp} {r r' : R2} (ho : OpR X (compareOp op) r) (ho' : OpR X (compareOp op') r') (ha : PE X a ta) (hb : PE X b tb) (hc : PE X c tc)
    (hm : lastMarks [op, op'] [b, c] = false := by with_unfolding_all rfl) : PT X (.Compare a [op, op'] [b, c] pos) (Zhp (Zh5 r r' ta tb tc)) := by
  intro pins s σ H Q I h
  refine isTrue_chain (thn (ha pins s σ H _ I h) fun v s1 ⟨x, H1, I1, r1, q1⟩ => test_link (thn (hb pins s1 σ H1 _ I1 q1) fun u s2 ⟨y, H2, I2, r2, q2⟩ =>
    thn (ho pins s2 σ H2 x y v u _ I2 r1 r2 q2) fun d s3 ⟨z, H3, I3, r3, k, e, q3⟩ => ?_)) hm
  subst e
  cases r3
  refine wpAny_truthy_bool ?_
  cases k with
  | false =>
    obtain ⟨k', e', q'⟩ := q3
    cases e'
    exact ite_ff ⟨H3, I3, q'⟩
  | true =>
    refine ite_tt (test_last (thn (hc pins s3 σ H3 _ I3 q3) fun w' s4 ⟨z', H4, I4, r4, q4⟩ => thn (ho' pins s4 σ H4 y z' u w' _ I4 r2 r4 q4) fun d' s5 ⟨z2, H5, I5, r5, k2, e2, q5⟩ => ?_))
    subst e2
    cases r5
    exact wpAny_truthy_bool ⟨H5, I5, q5⟩
theorem Zfy : (sizeLine : Nat) < 2 ^ 63 := by rw [sizeLine_eq]; decide
theorem Zdu : OpR X (binaryOp .Add) (fun x y H Q => ∃ i j, x = .str i /\ y = .str j /\ i.length + j.length <= sizeLine /\ Q (.str (i ++ j)) H) := by
 intro pins s σ H x y v u Q I rx ry h
 obtain ⟨i, j, rfl, rfl, hz, q⟩ := h
 obtain ⟨t, rfl⟩ := rx
 obtain ⟨t', rfl⟩ := ry
 exact add_str (fun t' tk => ⟨.str (i ++ j), H, I.tok _, ⟨_, rfl⟩, q⟩) hz
theorem Zev {x : V} {us : List Value} (r : Vals [x] us) : ∃ u, us = [u] /\ RelV x u := by
 cases r with
 | cons r1 r2 => cases r2; exact ⟨_, rfl, r1⟩
theorem vals2 {x y : V} {us : List Value} (r : Vals [x, y] us) : ∃ u w', us = [u, w'] /\ RelV x u /\ RelV y w' := by
  cases r with
  | cons r1 r2 =>
    cases r2 with
    | cons r3 r4 => cases r4; exact ⟨_, _, rfl, r1, r3⟩
theorem ZkR : ZbU X (.builtin "abs") (fun xs H Q => ∃ i, xs = [.int i] /\ Q (.int (if i < 0 then -i else i)) H) := by
 intro pins s σ H xs us Q I r h
 obtain ⟨i, rfl, q⟩ := h
 obtain ⟨u, rfl, t, rfl⟩ := Zev r
 exact call_abs_int fun u tk => ⟨.int (if i < 0 then -i else i), H, I.tok _, ⟨_, rfl⟩, q⟩
theorem Zjy (hc : X.calm = true) : ZbU X (.builtin "max") (fun xs H Q => ∃ i j, xs = [.int i, .int j] /\ Q (.int (if j > i then j else i)) H) := by
 intro pins s σ H xs us Q I r h
 obtain ⟨i, j, rfl, q⟩ := h
 obtain ⟨u, w', rfl, ⟨t, rfl⟩, ⟨t', rfl⟩⟩ := vals2 r
 refine max_two_ints (I.ok.hd hc) fun h' tk k => ⟨_, H, I.kept k, ?_, q⟩
 by_cases hj : j > i
 ·rw [if_pos hj, if_pos hj]; exact ⟨_, rfl⟩
 ·rw [if_neg hj, if_neg hj]; exact ⟨_, rfl⟩
theorem Zjx (hc : X.calm = true) : ZbU X (.builtin "min") (fun xs H Q => ∃ i j, xs = [.int i, .int j] /\ Q (.int (if j < i then j else i)) H) := by
 intro pins s σ H xs us Q I r h
 obtain ⟨i, j, rfl, q⟩ := h
 obtain ⟨u, w', rfl, ⟨t, rfl⟩, ⟨t', rfl⟩⟩ := vals2 r
 refine min_two_ints (I.ok.hd hc) fun h' tk k => ⟨_, H, I.kept k, ?_, q⟩
 by_cases hj : j < i
 ·rw [if_pos hj, if_pos hj]; exact ⟨_, rfl⟩
 ·rw [if_neg hj, if_neg hj]; exact ⟨_, rfl⟩
theorem ZfI : ZbU X (.type "str") (fun xs H Q => ∃ i, xs = [.int i] /\ i.natAbs.log2 < 1920 /\ Q (.str (toString i)) H) := by
 intro pins s σ H xs us Q I r h
 obtain ⟨i, rfl, hz, q⟩ := h
 obtain ⟨u, rfl, t, rfl⟩ := Zev r
 exact PySem.P.str_of_int hz ⟨.str _, H, I.tok _, ⟨_, rfl⟩, q⟩
noncomputable def LenV (K : PySem.W.Frag) (x : V) (H : Hp) (n : Nat) : Prop :=
 match x with
 | .str y => y.length <= sizeLine /\ n = y.length
 | .byt y => y.size <= sizeLine /\ n = y.size
 | .ref p => (∃ xs, SqL K H p xs /\ n = xs.length) \/ ∃ xs, SqT K H p xs /\ n = xs.length
 | _ => False
theorem ZkQ : ZbU X (.builtin "len") (fun xs H Q => ∃ x n, xs = [x] /\ LenV X.K x H n /\ Q (.int n) H) := by
  intro pins s σ H xs us Q I r h
  obtain ⟨x, n, rfl, e, q⟩ := h
  obtain ⟨u, rfl, rx⟩ := Zev r
  have hl := Zfy
  have hs : sizeLine = 16777216 := sizeLine_eq
  cases x with
  | str y =>
    obtain ⟨t, rfl⟩ := rx
    obtain ⟨hy, e'⟩ : y.length <= sizeLine /\ n = y.length := e
    subst e'
    exact len_str (by lia) ⟨.int _, H, I.tok _, ⟨_, rfl⟩, q⟩
  | byt y =>
    obtain ⟨t, rfl⟩ := rx
    obtain ⟨hy, e'⟩ : y.size <= sizeLine /\ n = y.size := e
    subst e'
    exact PySem.W.len_bytes (by lia) ⟨.int _, H, I.tok _, ⟨_, rfl⟩, q⟩
  | ref p =>
    cases rx
    have e' : (∃ xs, SqL X.K H p xs /\ n = xs.length) \/ ∃ xs, SqT X.K H p xs /\ n = xs.length := e
    rcases e' with ⟨xs, hx, e'⟩ | ⟨xs, hx, e'⟩
    · subst e'
      obtain ⟨its, r', pl, hz⟩ := I.list hx
      have hlen := r'.length
      exact Calls.call_len_list pl.isList (by simp only [List.size_toArray]; lia) ⟨.int xs.length, H, I.tok _, ⟨_, by simp only [List.size_toArray]; rw [hlen]⟩, q⟩
    · subst e'
      obtain ⟨its, r', pl, hz⟩ := I.tuple hx
      have hlen := r'.length
      exact len_tuple pl (by simp only [List.size_toArray]; lia) ⟨.int xs.length, H, I.tok _, ⟨_, by simp only [List.size_toArray]; rw [hlen]⟩, q⟩
  | _ => exact (show False from e).elim
end
end L2
namespace L2
open PySem PySem.Spec PyProof.Rows
structure ObjM (h : Heap) (x dx C : Addr) (mA : Str -> Option Value) : Prop where
 obj : h.get? x = some (PySem.W.instObj C dx)
 ns : h.Ns1 dx mA
 ne : dx ≠ x
theorem ZiX {h : Heap} {dx : Addr} {mA : Str -> Option Value} (n : h.Ns1 dx mA) : ∃ od, h.get? dx = some od /\ ∀ name, PySem.W.lookIn name od = some (mA name) := by
 obtain ⟨o, es, ep, ho, hd, hk, _, hm⟩ := n
 refine ⟨o, ho, fun name => ?_⟩
 have e := hm name
 unfold nsFind findBy at e
 rw [<- Array.find?_toList] at e
 unfold PySem.W.lookIn
 rw [hd]
 dsimp only
 split
 ·rename_i y q
  rw [q] at e
  exact congrArg some e
 ·rename_i q
  rw [q] at e
  have a : es.toList.any (·.refKey) = false := by
   rw [List.any_eq_false]
   intro y hy
   obtain ⟨z, t, hkey⟩ := hk y (Array.mem_toList_iff.mp hy)
   simp [DictEntry.refKey, hkey]
  have a' : ¬ es.toList.any (·.refKey) = true := by rw [a]; exact Bool.false_ne_true
  rw [if_neg a']
  exact congrArg some e
theorem ObjM.look {h : Heap} {x dx C : Addr} {mA : Str -> Option Value} (I : ObjM h x dx C mA) : ∃ od, PySem.W.InstAt h x (PySem.W.instObj C dx) C (some od) /\ ∀ name, PySem.W.lookIn name od = some (mA name) :=
 let ⟨od, ho, hl⟩ := ZiX I.ns
 ⟨od, ⟨I.obj, rfl, rfl, ho⟩, hl⟩
section
variable {prog : Program} {w : World} {A : Around} {E : Value -> Shared -> Prop} {s : Shared} {K : PySem.W.Frag} {x dx C f : Addr} {mA : Str -> Option Value} {name : Str} {v : Value}
end
theorem RelO.some_of {v : V} {o : Option Value} (r : RelO (some v) o) : ∃ u, o = some u /\ RelV v u := by
 cases o with
 | none => exact (show False from r).elim
 | some u => exact ⟨u, rfl, r⟩
section
variable {P : Program} {w : World} {H H' : Hp} {h h' : Heap} {a C dx : Addr} {fs fs' : List (Str × V)}
theorem ZmD (hok : HOk P w H h) (e : H a = some (.ins C dx fs)) : ∃ mA, ObjM h a dx C mA /\ (∀ f, RelO (fs.lookup f) (mA f)) /\ PySem.Within mA (fs.map (·.1)) /\ fs.length <= 1000 /\ H dx = some (.own a) := by
 obtain ⟨d, z, ne, ob, mA, n, r, q⟩ := (show ObjOk P w H h a (.ins C dx fs) from hok a _ e)
 exact ⟨mA, ⟨ob, n, ne⟩, r, q, z, d⟩
end
structure Cls (K : PySem.W.Frag) (C : Addr) : Prop where
 pg : PySem.W.plainGet K C Str.empty = true
 hd : PySem.W.hasDictIn K C = true
 po : PySem.W.plainOver K C = true
 sa : PySem.W.findIn K (.ref C) "__setattr__" = some (some (.builtin "object.__setattr__"))
theorem Cls.get {K : PySem.W.Frag} {C : Addr} (c : Cls K C) (f : Str) : PySem.W.plainGet K C f = true := c.pg
section
variable {X : Cx} {pins : List (Addr × Obj)} {σ : St} {H : Hp} {s : Shared} {a C dx : Addr} {fs : List (Str × V)} {f : Str} {v : V} {A : Around} {E : Value -> Shared -> Prop}
end
section
variable {X : Cx} {o e value : Expr} {f : Str} {pos pos' tpos : Pos} {ta tv : TE}
end
section
variable {X : Cx} {pins : List (Addr × Obj)} {σ : St} {H : Hp} {s : Shared} {A : Around} {E : Value -> Shared -> Prop} {Q : Value -> Shared -> Prop} {c : Value} {b : Bool}
inductive TyOf (K : PySem.W.Frag) (H : Hp) : V -> Value -> Prop where
 | non : TyOf K H .non (.type "NoneType")
 | bl (x : Bool) : TyOf K H (.bl x) (.type "bool")
 | int (i : Int) : TyOf K H (.int i) (.type "int")
 | str (x : Str) : TyOf K H (.str x) (.type "str")
 | flt (x : UInt64) : TyOf K H (.flt x) (.type "float")
 | lst {a : Addr} {xs : List V} (e : H a = some (.lst xs)) : TyOf K H (.ref a) (.type "list")
 | frz {a : Addr} {o : Obj} {xs : List V} (e : H a = some (.frz o (.lst xs))) : TyOf K H (.ref a) (.type "list")
 | tup {a : Addr} {xs : List V} (e : H a = some (.tup xs)) : TyOf K H (.ref a) (.type "tuple")
 | dK {a : Addr} {kvs : List (Key × V)} (e : H a = some (.dK kvs)) : TyOf K H (.ref a) (.type "dict")
 | dT {a : Addr} {kvs : List (List Key × V)} (e : H a = some (.dT kvs)) : TyOf K H (.ref a) (.type "dict")
 | ins {a C dx : Addr} {fs : List (Str × V)} (e : H a = some (.ins C dx fs)) (cl : Cls K C) (ha : PySem.W.findIn K (.ref C) "__class__" = some (some (.builtin "object.__class__")))
   (hn : PySem.W.specialIn K (.builtin "object.__class__") "__get__" = some (some (.builtin "getset_descriptor.__get__"))) (htk : PySem.W.takesIn K (.builtin "object.__class__") = some true)
   (hm : PySem.W.mroIn K C (.type "object") = some true) : TyOf K H (.ref a) (.ref C)
theorem Zjc {x : V} {u t : Value} (I : Inv X pins σ H s) (rx : RelV x u) (ty : TyOf X.K H x t) (e : PySem.W.kitOne X.K t c = some b) (h : ∀ tk, Q (.bool b) { s with toks := tk }) :
    wpAny (model X.prog X.w) A (call (.builtin "isinstance") [u, c]) Q E s := by
  cases ty with
  | non => cases (show u = Value.none from rx); exact PySem.W.kia_one PySem.W.kitx_none I.kIn True.intro e (fun z => nomatch z) h
  | bl y => cases (show u = Value.bool y from rx); exact PySem.W.kia_one PySem.W.kitx_bool I.kIn True.intro e (fun z => nomatch z) h
  | int i => obtain ⟨t, q⟩ := (show ∃ t, u = Value.int i t from rx); cases q; exact PySem.W.kia_one PySem.W.kitx_int I.kIn True.intro e (fun z => nomatch z) h
  | str y => obtain ⟨t, q⟩ := (show ∃ t, u = Value.str y t from rx); cases q; exact PySem.W.kia_one PySem.W.kitx_str I.kIn True.intro e (fun z => nomatch z) h
  | flt y => obtain ⟨t, q⟩ := (show ∃ t, u = Value.float y t from rx); cases q; exact PySem.W.kia_one PySem.W.kitx_float I.kIn True.intro e (fun z => nomatch z) h
  | @lst a xs ea =>
    cases (show u = Value.ref a from rx)
    obtain ⟨_, _, n, _, h1⟩ := (show ObjOk X.prog X.w H s.heap a (.lst xs) from I.hok a _ ea)
    exact PySem.W.kia_one PySem.W.kitx_list I.kIn ⟨_, h1, rfl⟩ e (fun z => nomatch z) h
  | @frz a ob xs ea =>
    cases (show u = Value.ref a from rx)
    obtain ⟨_, _, _, n, _, h1⟩ := (show ObjOk X.prog X.w H s.heap a (.frz ob (.lst xs)) from I.hok a _ ea)
    exact PySem.W.kia_one PySem.W.kitx_list I.kIn ⟨_, h1, rfl⟩ e (fun z => nomatch z) h
  | @tup a xs ea =>
    cases (show u = Value.ref a from rx)
    obtain ⟨_, _, _, p⟩ := (show ObjOk X.prog X.w H s.heap a (.tup xs) from I.hok a _ ea)
    obtain ⟨o, h1, h2, _⟩ := p
    exact PySem.W.kia_one PySem.W.kitx_tuple I.kIn ⟨o, h1, h2⟩ e (fun z => nomatch z) h
  | @dK a kvs ea =>
    cases (show u = Value.ref a from rx)
    obtain ⟨_, _, vs, _, p⟩ := (show ObjOk X.prog X.w H s.heap a (.dK kvs) from I.hok a _ ea)
    obtain ⟨o, es, ep, h1, h2, _⟩ := p
    exact PySem.W.kia_one PySem.W.kitx_dict I.kIn ⟨o, h1, h2.1⟩ e (fun z => nomatch z) h
  | @dT a kvs ea =>
    cases (show u = Value.ref a from rx)
    obtain ⟨_, _, xs, _, o, es, ep, h1, h2, _⟩ := (show ObjOk X.prog X.w H s.heap a (.dT kvs) from I.hok a _ ea)
    exact PySem.W.kia_one PySem.W.kitx_dict I.kIn ⟨o, h1, h2.1⟩ e (fun z => nomatch z) h
  | @ins a C dx fs ea cl ha hn htk hm =>
    cases (show u = Value.ref a from rx)
    obtain ⟨mA, O, _⟩ := ZmD I.hok ea
    obtain ⟨od, J, _⟩ := O.look
    exact PySem.W.kia_one (PySem.W.kitx_own (cl.get _) cl.hd ha hn htk hm) I.kIn J e (fun z => nomatch z) h
end
end L2
namespace L2
open PySem PySem.Spec PyProof.Rows
structure Room (k : Nat) (A : Around) : Prop where
 hd : A.handled = none
 dp : A.depth + 3 * k + 5 < recursionLimit
 un : A.units + 16 * k + 200 < cLine
theorem Room.mono {j k : Nat} {A : Around} (r : Room k A) (h : j <= k) : Room j A := ⟨r.hd, by have := r.dp; lia, by have := r.un; lia⟩
theorem Room.deeper {k : Nat} {A : Around} (r : Room (k + 1) A) (env : Env) : Room k (A.deeper env) :=
 ⟨r.hd, by have := r.dp; show A.depth + 1 + 3 * k + 5 < _; lia, by have := r.un; show A.units + 3 + 16 * k + 200 < _; lia⟩
theorem Room.depth {k : Nat} {A : Around} (r : Room k A) : A.depth < recursionLimit := by have := r.dp; lia
theorem Room.units {k : Nat} {A : Around} (r : Room k A) : A.units + 64 < cLine := by have := r.un; lia
noncomputable def tNil : TA := fun _ H Q => Q [] H
noncomputable def Zcj (ta : TE) (tr : TA) : TA := fun σ H Q => ta σ H fun x H1 => tr σ H1 fun xs H2 => Q (x :: xs) H2
section
variable {X : Cx} {e : Expr} {es : List Expr} {te : TE} {t : TA} {pos : Pos}
theorem Zad : PA X [] tNil := fun _ _ _ _ H Q I h => Calls.spliced_nil ⟨[], H, I, .nil, h⟩
theorem Zcw (ha : PE X e te) (hr : PA X es t) (hs : starEach (e :: es) X.env = (false, eval e X.env) :: starEach es X.env := by rfl) : PA X (e :: es) (Zcj te t) := by
 intro pos pins s σ H Q I h
 rw [hs]
 show wpAny _ _ (spliced ((false, eval e X.env) :: backTo pos (starEach es X.env))) _ _ s
 refine Calls.spliced_cons (thn (ha pins s σ H _ I h) fun u s1 ⟨x, H1, I1, r1, q1⟩ => ?_)
 exact thn (hr pos pins s1 σ H1 _ I1 q1) fun us s2 ⟨xs, H2, I2, r2, q2⟩ => ⟨x :: xs, H2, I2, .cons r1 r2, q2⟩
noncomputable def tTup (t : TA) : TE := fun σ H Q => t σ H fun xs H1 => xs.length <= sizeLine /\ ∀ p, H1 p = none -> Q (.ref p) (upd H1 p (.tup xs))
noncomputable def tLst (t : TA) : TE := fun σ H Q => t σ H fun xs H1 => xs.length <= sizeLine /\ ∀ p, H1 p = none -> Q (.ref p) (upd H1 p (.lst xs))
theorem Za0 {x1} (h : PA X es t) : PE X (.Tuple es x1 pos) (tTup t) := by
 intro pins s σ H Q I hq
 refine wpAny_Tuple_spliced (thn (h pos pins s σ H _ I hq) fun us s1 ⟨xs, H1, I1, r, z, q⟩ => ⟨by rw [<- r.length]; exact z, ?_⟩)
 have hf : H1 s1.heap.objs.size = none := I1.hok.fresh (Nat.le_refl _)
 refine ⟨.ref s1.heap.objs.size, upd H1 s1.heap.objs.size (.tup xs), I1.laid (t' := s1.toks) (fun b u e => Heap.get?_push_of_some _ e) (Nat.le_refl _) ?_, rfl, q _ hf⟩
 exact ⟨z, us, r, ⟨_, Heap.get?_push_size _ rfl, rfl, _, rfl⟩⟩
theorem Za9 (h : PA X es t) : PE X (.List es pos) (tLst t) := by
 intro pins s σ H Q I hq
 refine wpAny_List_spliced (thn (h pos pins s σ H _ I hq) fun us s1 ⟨xs, H1, I1, r, z, q⟩ => ⟨by rw [<- r.length]; exact z, ?_⟩)
 have hf : H1 s1.heap.objs.size = none := I1.hok.fresh (Nat.le_refl _)
 refine ⟨.ref s1.heap.objs.size, upd H1 s1.heap.objs.size (.lst xs), I1.laid (t' := s1.toks) (fun b u e => Heap.get?_push_of_some _ e) (Nat.le_refl _) ?_, rfl, q _ hf⟩
 exact ⟨z, us, 0, r, Heap.get?_push_size _ rfl⟩
end
noncomputable abbrev Sp := List V -> Hp -> VK -> XK -> Prop
noncomputable abbrev CXT := List Env -> Hp -> Shared -> XK -> Value -> Shared -> Prop
structure Env0 (P : Program) (w : World) (K : PySem.W.Frag) (mg : Str -> Option Value) (base : Heap) (A : Around) (outer : List Env) (s : Shared) (H : Hp) : Prop where
 frames : A.frames = some outer
 mod : Mod K mg base
 bs : ∀ b o, base.get? b = some o -> s.heap.get? b = some o /\ H b = none
 bsz : base.objs.size <= s.heap.objs.size
 funs : s.heap.FunFrames base outer
 frf : ∀ b ∈ frs outer, H b = none
 hok : HOk P w H s.heap
 bare : AllBare s.gens
noncomputable def CE (outer : List Env) (P : Program) (w : World) (H : Hp) (s : Shared) (Q : VK) (u : Value) (s' : Shared) : Prop :=
 ∃ v H', s'.os = s.os /\ AllBare s'.gens /\ Un (frs outer) [] H H' s.heap s'.heap /\ HOk P w H' s'.heap /\ RelV v u /\ Q v H'
noncomputable def CR (CX : CXT) (outer : List Env) (P : Program) (w : World) (H : Hp) (s : Shared) (Q : VK) (E : XK) (r : Result) (s' : Shared) : Prop :=
 match r with
 | .ok (.ret u) => CE outer P w H s Q u s'
 | .ok _ => False
 | .error e => CX outer H s E e s'
structure FnOk (P : Program) (w : World) (K : PySem.W.Frag) (mg : Str -> Option Value) (base : Heap) (CX : CXT) (k : Nat) (f : Addr) (fd : FuncData) (ps : List Str) (sp : Sp) : Prop where
 len : ∀ vs H Q E, sp vs H Q E -> vs.length = ps.length
 run : ∀ (A : Around) (outer : List Env) (s : Shared) (H : Hp) (args : Args) (us : List Value) (vs : List V) (Q : VK) (E : XK), Room k A -> Env0 P w K mg base A outer s H -> BindsTo s fd args (ps.zip us) -> Vals vs us -> sp vs H Q E ->
  codeAny (model P w) A (.call (.ref f) args) (CR CX outer P w H s Q E) s
section
variable {X : Cx} {pins : List (Addr × Obj)} {σ : St} {H : Hp} {s s' : Shared}
theorem Inv.env0 (I : Inv X pins σ H s) : Env0 X.prog X.w X.K X.mg X.base X.A X.stack s H :=
 ⟨I.ok.frames, I.ok.mod, I.bs, Nat.le_trans I.ok.bsz I.sz, I.stack, I.stkFree, I.hok, I.bare⟩
theorem Inv.after {Q : VK} {u : Value} (I : Inv X pins σ H s) (h : CE X.stack X.prog X.w H s Q u s') : EP X pins σ Q u s' := by
 obtain ⟨v, H', os, bare, un, hok, r, q⟩ := h
 obtain ⟨hh, g, d, t, os'⟩ := s'
 obtain rfl : os' = s.os := os
 exact ⟨v, H', I.call (h' := hh) (g' := g) (d' := d) (t' := t) (ch := []) un hok bare (fun b z => absurd z (by simp)), r, q⟩
end
noncomputable def Zhq (sp : Sp) (dvs : List V) (E : XK) (t : TA) : TE := fun σ H Q => t σ H fun vs H1 => sp (vs ++ dvs) H1 Q E
noncomputable def Binds (K : PySem.W.Frag) (fd : FuncData) (ps : List Str) (ds : List Value) : Prop :=
 ∀ (s : Shared) (us : List Value), K.In s.heap -> (us ++ ds).length = ps.length -> BindsTo s fd ⟨us, []⟩ (ps.zip (us ++ ds))
theorem Binds.all {K : PySem.W.Frag} {fd : FuncData} {ps : List Str} (h : ∀ us : List Value, us.length = ps.length -> bindArgs fd ⟨us, []⟩ = pure (ps.zip us)) : Binds K fd ps [] := fun s us _ hl => by
 rw [List.append_nil] at hl ⊢
 exact .of_eq (h us hl)
noncomputable def Zhk (CX : CXT) (X : Cx) (E : XK) : Prop := ∀ (pins : List (Addr × Obj)) (σ : St) (H : Hp) (s : Shared) (e : Value) (s' : Shared), Inv X pins σ H s -> CX X.stack H s E e s' -> X.xe e s'
section
variable {X : Cx} {CX : CXT} {k : Nat} {f C : Addr} {fd : FuncData} {ps : List Str} {sp : Sp} {dvs : List V} {ds : List Value} {E : XK} {x m : Str} {p pos apos : Pos} {e o : Expr} {es : List Expr} {ta : TE} {t : TA}
theorem Zk5 {pins : List (Addr × Obj)} {σ : St} {H : Hp} {s : Shared} {Q : VK} {us : List Value} {vs : List V} (F : FnOk X.prog X.w X.K X.mg X.base CX k f fd ps sp) (hr : Room k X.A) (hb : Binds X.K fd ps ds) (hd : Vals dvs ds) (hx : Zhk CX X E)
    (I : Inv X pins σ H s) (r : Vals vs us) (h : sp (vs ++ dvs) H Q E) : wpAny (model X.prog X.w) X.A (call (.ref f) us) (EP X pins σ Q) X.xe s := by
  have r2 : Vals (vs ++ dvs) (us ++ ds) := r.append hd
  have hl : (us ++ ds).length = ps.length := by rw [<- r2.length]; exact F.len _ _ _ _ h
  refine wpAny_call (codeAny_mono (F.run X.A X.stack s H ⟨us, []⟩ (us ++ ds) (vs ++ dvs) Q E hr I.env0 (hb s us I.kIn hl) r2 h) fun r s' hq => ?_)
  cases r with
  | error e => exact hx pins σ H s e s' I hq
  | ok fl =>
    cases fl with
    | ret u => exact I.after hq
    | next => exact False.elim hq
    | brk => exact False.elim hq
    | cont => exact False.elim hq
theorem Zmj (F : FnOk X.prog X.w X.K X.mg X.base CX k f fd ps sp) (hr : Room k X.A) (hg : Gl X x) (hm : X.mg x = some (.ref f)) (hk : PySem.W.keepIn X.K (.ref f) = true) (hb : Binds X.K fd ps ds) (hd : Vals dvs ds) (hx : Zhk CX X E)
  (ha : PA X (e :: es) t) (hdb : (x == ("__debug__" : Str)) = false := by decide) (he : starEach (e :: es) X.env = (false, eval e X.env) :: starEach es X.env := by rfl) (hpl : (backTo pos (starEach es X.env)).any (·.1) = false := by rfl) :
  PE X (.Call (.Name x p) (e :: es) [] pos) (Zhq sp dvs E t) := by
 intro pins s σ H Q I h
 refine wpAny_Call_Name_kw (Ze3 I hg hm ?_ hdb)
 refine PySem.W.callWith_K (h₀ := X.base) I.ok.mod.kin hk (thn (ha pos pins s σ H _ I h) fun us s1 ⟨vs, H1, I1, r, q⟩ => ⟨I1.kIn, ?_⟩) he hpl
 exact Zk5 F hr hb hd hx I1 r q
theorem Zkr (F : FnOk X.prog X.w X.K X.mg X.base CX k f fd ps sp) (hr : Room k X.A) (hg : Gl X x) (hm : X.mg x = some (.ref f)) (hk : PySem.W.keepIn X.K (.ref f) = true) (hb : Binds X.K fd ps ds) (hd : Vals dvs ds) (hx : Zhk CX X E)
  (hdb : (x == ("__debug__" : Str)) = false := by decide) : PE X (.Call (.Name x p) [] [] pos) (Zhq sp dvs E tNil) := by
 intro pins s σ H Q I h
 refine wpAny_Call_Name_kw (Ze3 I hg hm ?_ hdb)
 exact PySem.W.callWith_K0 I.kIn hk (Zk5 (us := []) F hr hb hd hx I .nil h)
end
section
variable {X : Cx} {CX : CXT} {k : Nat} {f C : Addr} {fd : FuncData} {ps ks : List Str} {sp : Sp} {E : XK} {x m : Str} {p pos apos kpos : Pos} {e o : Expr} {es : List Expr} {kws : List Keyword} {te ta : TE} {t tk : TA} {nm : Option Str}
variable {g : List Value -> List Value -> List Value} {gV : List V -> List V -> List V}
end
structure FnScope (N P : List Str) (sc : Scope) : Prop where
 kind : sc.kind = .function
 co : sc.isCoroutine = false
 gen : sc.isGenerator = false
 nd : N.Nodup
 pre : N.take P.length = P
 par : ∀ x ∈ P, sc.names.lookup x = some .local \/ sc.names.lookup x = some .cell
 nofree : ∀ y ∈ sc.names, y.2 ≠ .free
theorem ZfR {kindOf : Str -> Option NameKind} {x : Str} : ∀ {binds : List (Str × Value)} {m : Str -> Option Value}, (∀ v, (x, v) ∉ binds) -> bindL kindOf binds m x = m x
  | [], _, _ => rfl
  | (n, v) :: r, m, h => by
    unfold bindL
    rw [ZfR fun w hw => h w (List.mem_cons_of_mem _ hw)]
    split
    · have : x ≠ n := by rintro rfl; exact h v List.mem_cons_self
      simp [this]
    · rfl
theorem ZfT {kindOf : Str -> Option NameKind} {x : Str} : ∀ {binds : List (Str × Value)} {m : Str -> Option Value}, (∀ v, (x, v) ∉ binds) -> bindC kindOf binds m x = m x
  | [], _, _ => rfl
  | (n, v) :: r, m, h => by
    unfold bindC
    rw [ZfT fun w hw => h w (List.mem_cons_of_mem _ hw)]
    split
    · rfl
    · have : x ≠ n := by rintro rfl; exact h v List.mem_cons_self
      simp [this]
theorem ZfS {kindOf : Str -> Option NameKind} {x : Str} {v : Value} : ∀ {P : List Str} {vs : List Value} {i : Nat} {m : Str -> Option Value}, P.Nodup -> P[i]? = some x -> vs[i]? = some v -> kindOf x = some .local ->
    bindL kindOf (P.zip vs) m x = some v
  | [], _, _, _, _, h, _, _ => by simp at h
  | _ :: _, [], _, _, _, _, h, _ => by simp at h
  | p :: P, w :: vs, 0, m, nd, h1, h2, hk => by
    simp at h1 h2; subst h1; subst h2
    show bindL kindOf ((p, w) :: P.zip vs) m p = _
    unfold bindL
    rw [ZfR fun v hv => (List.nodup_cons.mp nd).1 (List.of_mem_zip hv).1, if_pos hk]
    simp
  | p :: P, w :: vs, i + 1, m, nd, h1, h2, hk => by
    show bindL kindOf ((p, w) :: P.zip vs) m x = _
    unfold bindL
    exact ZfS (i := i) (List.nodup_cons.mp nd).2 (by simpa using h1) (by simpa using h2) hk
theorem ZfU {kindOf : Str -> Option NameKind} {x : Str} {v : Value} : ∀ {P : List Str} {vs : List Value} {i : Nat} {m : Str -> Option Value}, P.Nodup -> P[i]? = some x -> vs[i]? = some v -> kindOf x ≠ some .local ->
    bindC kindOf (P.zip vs) m x = some v
  | [], _, _, _, _, h, _, _ => by simp at h
  | _ :: _, [], _, _, _, _, h, _ => by simp at h
  | p :: P, w :: vs, 0, m, nd, h1, h2, hk => by
    simp at h1 h2; subst h1; subst h2
    show bindC kindOf ((p, w) :: P.zip vs) m p = _
    unfold bindC
    rw [ZfT fun v hv => (List.nodup_cons.mp nd).1 (List.of_mem_zip hv).1, if_neg hk]
    simp
  | p :: P, w :: vs, i + 1, m, nd, h1, h2, hk => by
    show bindC kindOf ((p, w) :: P.zip vs) m x = _
    unfold bindC
    exact ZfU (i := i) (List.nodup_cons.mp nd).2 (by simpa using h1) (by simpa using h2) hk
noncomputable def Zew (N : List Str) (vs : List V) : St := vs.map some ++ List.replicate (N.length - vs.length) none
noncomputable def cxOf (CX : CXT) (P : Program) (w : World) (K : PySem.W.Frag) (mg : Str -> Option Value) (base : Heap) (N : List Str) (qual : Str) (scope : Scope) (f : Addr) (cd : Value) (A : Around) (outer : List Env) (s : Shared) (H : Hp) (E : XK) : Cx where
 prog := P
 w := w
 K := K
 mg := mg
 base := base
 A := A.deeper (envOfC qual scope s.heap.objs.size f cd)
 N := N
 s₀ := s
 H₀ := H
 env := envOfC qual scope s.heap.objs.size f cd
 outer := outer
 stack := envOfC qual scope s.heap.objs.size f cd :: outer
 ex := []
 calm := true
 fn := fun _ => true
 pn := []
 xe := fun e s' => wpAny (model P w) (A.deeper (envOfC qual scope s.heap.objs.size f cd)) (leaving (envOfC qual scope s.heap.objs.size f cd) e) (fun _ s'' => CX outer H s E e s'') (fun e' s'' => CX outer H s E e' s'') s'
theorem Zhf {sc : Scope} {n : Nat} {x : Str} (h : sc.names.lookup x = some .cell) : ∃ c, (cellsFrom n sc.names []).lookup x = some c := by
 have q := PySem.W.cellsFrom_some sc.names n [] (.inl h)
 exact Option.isSome_iff_exists.mp q
theorem Zjd {CX : CXT} {P : Program} {w : World} {K : PySem.W.Frag} {mg : Str -> Option Value} {base : Heap} {N ps : List Str} {qual : Str} {scope : Scope} {f : Addr} {cd : Value} {A : Around} {outer : List Env} {s s1 : Shared} {H : Hp} {E : XK} {us : List Value} {vs : List V}
  (S : FnScope N ps scope) (hd : A.handled = none) (e0 : Env0 P w K mg base A outer s H) (hl : vs.length = ps.length) (r : Vals vs us)
  (x : InCallC s s.heap.objs.size (bindL (envOfC qual scope s.heap.objs.size f cd).kindOf (ps.zip us) fun _ => none) (cellsFrom (s.heap.objs.size + 1) scope.names []) (bindC (envOfC qual scope s.heap.objs.size f cd).kindOf (ps.zip us) fun _ => none) s1) :
  Inv (cxOf CX P w K mg base N qual scope f cd A outer s H E) [] (Zew N vs) H s1 := by
 have hpl : ps.length <= N.length := by have := congrArg List.length S.pre; rw [List.length_take] at this; lia
 obtain ⟨h1, tk, rfl, hk⟩ := x.done
 have noA : ∀ b : Addr, b ∉ (cxOf CX P w K mg base N qual scope f cd A outer s H E).ex := fun b z => absurd (show b ∈ ([] : List Addr) from z) (by simp)
 refine ⟨⟨e0.mod, S.kind, rfl, rfl, Nat.le_refl _, fun y z c h1 h2 => ?_, fun y hy => ?_, fun y c _ h => ?_, fun _ => hd, Around.frames_deeper e0.frames, .inr ⟨rfl, rfl⟩, fun b z => absurd z (noA b), e0.bs, e0.bsz, fun b _ _ => noA b, fun b z => absurd z (noA b), e0.funs, e0.frf⟩,
  rfl, e0.bare, Un.kept hk, ⟨_, x.toInCall.ns, fun i y v h1 h2 h3 => ?_⟩, fun y c h => ⟨_, x.cell y c h⟩, e0.hok.fresh (Nat.le_refl _), fun y c h => ?_, fun p hp => absurd (show p ∈ ([] : List (Addr × Obj)) from hp) (by simp), e0.hok.kept hk, ?_⟩
 ·exact name_of_addr x.apart (PySem.mem_of_lookup h1) (PySem.mem_of_lookup h2)
 ·have hy : scope.names.lookup y = some .cell \/ scope.names.lookup y = some .free := hy
  rcases hy with hy | hy
  ·exact Zhf hy
  ·exact absurd rfl (S.nofree _ (PySem.mem_of_lookup hy))
 ·exact Nat.le_of_lt (x.above y c (PySem.mem_of_lookup h))
 ·have hi : i < vs.length := by
   unfold Zew at h2
   by_cases hi : i < vs.length
   ·exact hi
   ·rw [List.getElem?_append_right (by simpa using hi)] at h2
    rw [List.getElem?_replicate] at h2
    split at h2 <;> cases h2
  have ha : vs[i]? = some v := by
   unfold Zew at h2
   rw [List.getElem?_append_left (by simpa using hi), List.getElem?_map] at h2
   cases e : vs[i]? with
   | none => rw [e] at h2; cases h2
   | some a => rw [e] at h2; cases h2; rfl
  obtain ⟨u, hu, rv⟩ := r.get ha
  have hp : ps[i]? = some y := by
   rw [<- S.pre, List.getElem?_take_of_lt (by lia)]; exact h1
  have ndP : ps.Nodup := by rw [<- S.pre]; exact S.nd.sublist (List.take_sublist _ _)
  refine ⟨u, rv, ?_⟩
  rcases S.par y (List.mem_of_getElem? hp) with k | k
  ·exact .inl ⟨k, ZfS ndP hp hu k⟩
  ·obtain ⟨c, e⟩ := Zhf (n := s.heap.objs.size + 1) k
   refine .inr ⟨.inl k, c, e, ?_⟩
   have q := x.cell y c e
   rw [ZfU ndP hp hu (by show scope.names.lookup y ≠ _; rw [k]; decide)] at q
   exact q
 ·exact e0.hok.fresh (Nat.le_of_lt (x.above y c (PySem.mem_of_lookup h)))
 ·unfold Zew
  show _ = N.length
  rw [List.length_append, List.length_map, List.length_replicate]
  lia
theorem fn_of {CX : CXT} {P : Program} {w : World} {K : PySem.W.Frag} {mg : Str -> Option Value} {base : Heap} {k : Nat} {f : Addr} {name qual : Str} {params : Arguments} {body : List Stmt} {scope : Scope} {dV kV doc pm cdv ct oc : Value} {an od : Option Addr}
    {osl : Array (Option Value)} {N ps : List Str} {sp : Sp} (lk : K.lookup f = some ⟨oc, od, .func (PySem.W.fnOf name qual params body scope dV kV doc pm an cdv ct), osl⟩) (hcd : PySem.W.codeIn K cdv qual = true) (S : FnScope N ps scope)
    (len : ∀ vs H Q E, sp vs H Q E -> vs.length = ps.length)
    (hbody : ∀ (A : Around) (outer : List Env) (s : Shared) (H : Hp) (vs : List V) (Q : VK) (E : XK), Room k (A.deeper (envOfC qual scope s.heap.objs.size f cdv)) -> sp vs H Q E ->
      ∃ t, PSs (cxOf CX P w K mg base N qual scope f cdv A outer s H E) body t /\ t { nx := fun _ H' => Q .non H', rt := Q } (Zew N vs) H) :
    FnOk P w K mg base CX (k + 1) f (PySem.W.fnOf name qual params body scope dV kV doc pm an cdv ct) ps sp := by
  refine ⟨len, fun A outer s H args us vs Q E hr e0 hb r hsp => ?_⟩
  have hl := len _ _ _ _ hsp
  have KX : K.In s.heap := e0.mod.kin.keeps fun b o e => (e0.bs b o e).1
  have lim : s.heap.NoLimit := e0.mod.nolimit.keeps fun b o e => (e0.bs b o e).1
  have hkind : ∀ y ∈ ps.zip us, scope.names.lookup y.1 = some .local \/ (scope.names.lookup y.1 = some .cell /\ ((cellsFrom (s.heap.objs.size + 1) scope.names []).lookup y.1).isSome = true) := fun ⟨n, v⟩ hy => by
    rcases S.par n (List.of_mem_zip hy).1 with q | q
    · exact .inl q
    · exact .inr ⟨q, PySem.W.cellsFrom_some _ _ _ (.inl q)⟩
  refine codeAny_call_function hr.depth (KX _ _ lk) rfl S.co S.gen rfl (PySem.W.codeRec_of KX hcd) (hb _ _ _ _ ?_)
  refine wpAny_newFunctionEnv_cells S.kind hkind fun env he s1 x => ?_
  subst he
  refine ⟨lim.keeps x.toInCall.keep, codeAny_func ?_⟩
  obtain ⟨t, ht, hq⟩ := hbody A outer s H vs Q E (hr.deeper _) hsp
  have I : Inv (cxOf CX P w K mg base N qual scope f cdv A outer s H E) [] (Zew N vs) H s1 := Zjd S hr.hd e0 hl r x
  refine wpAny_mono (ht [] s1 (Zew N vs) H _ I hq) (fun fl s' hs => ?_) fun e s' hs => hs
  have fin : ∀ {σ' : St} {H' : Hp} {v : V} {u : Value}, Inv (cxOf CX P w K mg base N qual scope f cdv A outer s H E) [] σ' H' s' -> RelV v u -> Q v H' -> CE outer P w H s Q u s' :=
    fun {σ' H' v u} J rv q => ⟨v, H', J.os, J.bare, J.base, J.hok, rv, q⟩
  cases fl with
  | ret u =>
    obtain ⟨v, σ', H', J, rv, q⟩ := hs
    exact fin J rv q
  | next =>
    obtain ⟨σ', H', J, q⟩ := hs
    exact fin (v := V.non) (u := Value.none) J rfl q
  | brk =>
    obtain ⟨_, _, _, q⟩ := hs
    exact False.elim q
  | cont =>
    obtain ⟨_, _, _, q⟩ := hs
    exact False.elim q
end L2
namespace L2
open PySem PySem.Spec PyProof.Rows
section
variable {X : Cx} {x : Str} {p pos : Pos} {e : Expr} {es : List Expr} {t : TA} {id T : String} {r : List V -> Hp -> VK -> Prop}
noncomputable def tCB (r : List V -> Hp -> VK -> Prop) (t : TA) : TE := fun σ H Q => t σ H fun vs H1 => r vs H1 Q
theorem Zai (hc : ZbU X (.builtin id) r) (hg : Gl X x) (hm : X.mg x = none) (hv : bootBuiltins x = some (.builtin id)) (ha : PA X (e :: es) t) (hn : x ≠ "__name__" := by decide) (hdb : (x == ("__debug__" : Str)) = false := by decide)
  (he : starEach (e :: es) X.env = (false, eval e X.env) :: starEach es X.env := by rfl) (hpl : (backTo pos (starEach es X.env)).any (·.1) = false := by rfl) : PE X (.Call (.Name x p) (e :: es) [] pos) (tCB r t) := by
 intro pins s σ H Q I h
 refine wpAny_Call_Name_kw (Zfz I hg hm hv ?_ hn hdb)
 exact PyProof.Rows.callWith_builtin1 (thn (ha pos pins s σ H _ I h) fun us s1 ⟨vs, H1, I1, r1, q1⟩ => hc pins s1 σ H1 vs us Q I1 r1 q1) he hpl
theorem ZbR (hc : ZbU X (.type T) r) (hg : Gl X x) (hm : X.mg x = none) (hv : bootBuiltins x = some (.type T)) (ha : PA X (e :: es) t) (hn : x ≠ "__name__" := by decide) (hdb : (x == ("__debug__" : Str)) = false := by decide)
  (he : starEach (e :: es) X.env = (false, eval e X.env) :: starEach es X.env := by rfl) (hpl : (backTo pos (starEach es X.env)).any (·.1) = false := by rfl) : PE X (.Call (.Name x p) (e :: es) [] pos) (tCB r t) := by
 intro pins s σ H Q I h
 refine wpAny_Call_Name_kw (Zfz I hg hm hv ?_ hn hdb)
 exact PyProof.Rows.callWith_type1 (thn (ha pos pins s σ H _ I h) fun us s1 ⟨vs, H1, I1, r1, q1⟩ => hc pins s1 σ H1 vs us Q I1 r1 q1) he hpl
end
end L2
namespace HT
open PySem PyProof.Rows
section
open PySem.SeqAt
open PySem.AutoSeq1 (wpAny_loadPart')
open PySem.MeetsSeq PySem.MeetsSeq2 PySem.MeetsSeq3
end
section
variable {prog : Program} {w : World} {A : Around} {E : Value -> Shared -> Prop} {s : Shared}
theorem cat_tup {t b : Addr} {vs ws : List Value} {Q : Value -> Shared -> Prop} (ht : IsTup s.heap t vs.toArray) (hb : IsTup s.heap b ws.toArray) (hv : vs ≠ [])
  (h1 : ws = [] -> Q (.ref t) s) (h2 : ws ≠ [] -> Q (.ref s.heap.objs.size) { s with heap := s.heap.push { cls := .type "tuple", data := .seq (vs ++ ws).toArray } })
  (hsz : vs.length + ws.length <= sizeLine) : wpAny (model prog w) A (binaryOp .Add (.ref t) (.ref b)) Q E s := by
 obtain ⟨⟨cls, dd, data, sl⟩, ho, hc, n, hd⟩ := id ht
 obtain ⟨⟨cls2, dd2, data2, sl2⟩, ho2, hc2, n2, hd2⟩ := id hb
 simp only at hc hd hc2 hd2
 subst hc hd hc2 hd2
 have e : vs.toArray ++ ws.toArray = (vs ++ ws).toArray := by simp
 by_cases hw : ws = []
 ·exact concat_meets ⟨_, ho, rfl⟩ ⟨_, ho2, rfl⟩ noFill_tuple_add seq_tuple_add PySem.F.slot_tuple_add PySem.F.entry_tuple_add (PySem.F.args_tuple_add_2 _ _)
   (tuple_addW1 t b vs.toArray ws.toArray n n2 dd dd2 sl sl2 (by simpa using hv) (by simp [hw])) ⟨ho, ho2, h1 hw⟩
 ·refine concat_meets ⟨_, ho, rfl⟩ ⟨_, ho2, rfl⟩ noFill_tuple_add seq_tuple_add PySem.F.slot_tuple_add PySem.F.entry_tuple_add (PySem.F.args_tuple_add_2 _ _)
   (tuple_addW2 t b vs.toArray ws.toArray n n2 dd dd2 sl sl2 (by simpa using hv) (by simpa using hw) (by rw [List.size_toArray, List.size_toArray]; exact hsz)) ⟨ho, ho2, ?_⟩
  rw [e]
  exact h2 hw
noncomputable def sIx (n d : Nat) : Option Int -> Nat
 | none => d
 | some v => if v < 0 then (v + (n : Int)).toNat else min v.toNat n
theorem sIx_none (n d : Nat) : sIx n d none = d := rfl
theorem sIx_nat (n d k : Nat) : sIx n d (some (k : Int)) = min k n := by
 show (if (k : Int) < 0 then ((k : Int) + (n : Int)).toNat else min (k : Int).toNat n) = min k n
 rw [if_neg (by lia), Int.toNat_natCast]
theorem sIx_le (n d : Nat) (hd : d <= n) (o : Option Int) : sIx n d o <= n := by
  cases o with
  | none => exact hd
  | some v =>
    show (if v < 0 then (v + (n : Int)).toNat else min v.toNat n) <= n
    by_cases hv : v < 0
    · rw [if_pos hv]; lia
    · rw [if_neg hv]; exact Nat.min_le_right _ _
theorem Zjs (v : Int) (n d : Nat) : (if v < 0 then max (v + (n : Int)) 0 else min v (n : Int)) = ((sIx n d (some v) : Nat) : Int) := by
 show (if v < 0 then max (v + (n : Int)) 0 else min v (n : Int)) = (((if v < 0 then (v + (n : Int)).toNat else min v.toNat n) : Nat) : Int)
 by_cases hv : v < 0
 ·simp only [if_pos hv]; lia
 ·simp only [if_neg hv]; lia
theorem ZhL (lo hi : Option Int) (n : Nat) : Builtin.Slice.sliceAdjust lo hi 1 (n : Int) = (((sIx n 0 lo : Nat) : Int), ((sIx n n hi : Nat) : Int)) := by
 have h1 : ¬ ((1 : Int) < 0) := by lia
 unfold Builtin.Slice.sliceAdjust
 simp only [h1, if_false]
 refine Prod.ext ?_ ?_
 ·cases lo with
  | none => rfl
  | some v => exact Zjs v n 0
 ·cases hi with
  | none => rfl
  | some v => exact Zjs v n n
theorem Zhv (i j : Nat) : Builtin.Slice.slicePlaces (i : Int) (j : Int) 1 = j - i := by
 unfold Builtin.Slice.slicePlaces
 have h1 : (1 : Int) > 0 := by lia
 simp only [h1, if_true, Int.ediv_one]
 split <;> lia
theorem ZeB {v : Value} {o : Option Int} {Q : Option Int -> Shared -> Prop} (p : IsPart v o) (h : Q o s) : wpAny (model prog w) A (Builtin.Slice.slicePartIndex v) Q E s := by
 cases p with
 | none => exact slicePart_none h
 | int i t => exact slicePart_int h
theorem Zcz {sl : Addr} {vl vu : Value} {lo hi : Option Int} {n : Nat} {Q : Int × Int × Nat -> Shared -> Prop} (hs : s.heap.IsSliceOf sl vl vu .none) (pl : IsPart vl lo) (pu : IsPart vu hi)
  (h : Q (((sIx n 0 lo : Nat) : Int), 1, sIx n n hi - sIx n 0 lo) s) : wpAny (model prog w) A (Builtin.Slice.sliceApplied (.ref sl) (pure (n : Int))) Q E s := by
 obtain ⟨os, hos, hcs, hds⟩ := id hs
 unfold Builtin.Slice.sliceApplied Builtin.Slice.sliceFields
 refine wpAny_bind (wpAny_bind (wpAny_field hos hds (x := vl) rfl (wpAny_bind (wpAny_field hos hds (x := vu) rfl (wpAny_bind (wpAny_field hos hds (x := .none) rfl (wpAny_pure ?_)))))))
 refine wpAny_bind (slicePart_none ?_)
 show wpAny _ _ (if ((1 : Int) == 0) = true then _ else _) _ _ s
 rw [if_neg (by decide)]
 refine wpAny_bind (ZeB pl (wpAny_bind (ZeB pu (wpAny_bind (wpAny_pure ?_)))))
 show wpAny _ _ (match Builtin.Slice.sliceAdjust lo hi 1 (n : Int) with | (lo, hi) => pure (lo, (1 : Int), Builtin.Slice.slicePlaces lo hi 1)) _ _ s
 rw [ZhL lo hi n]
 show wpAny _ _ (pure (((sIx n 0 lo : Nat) : Int), (1 : Int), Builtin.Slice.slicePlaces ((sIx n 0 lo : Nat) : Int) ((sIx n n hi : Nat) : Int) 1)) _ _ s
 rw [Zhv]
 exact wpAny_pure h
theorem Zkn (xs : Array Value) (i k : Nat) : ((List.range k).filterMap fun (m : Nat) => xs[((i : Int) + (m : Int) * 1).toNat]?).toArray = ((xs.toList.drop i).take k).toArray := by
 have e : (fun (m : Nat) => xs[((i : Int) + (m : Int) * 1).toNat]?) = fun m => xs[i + m]? := by
  funext m
  have : ((i : Int) + (m : Int) * 1).toNat = i + m := by lia
  rw [this]
 rw [e]
 have := pick_run xs i k
 rw [List.filterMap_map] at this
 have e2 : ((fun x => xs[x]?) ∘ fun x => i + x) = fun m => xs[i + m]? := rfl
 rw [e2] at this
 rw [this]
theorem getItem_tuple_cut {t sl : Addr} {items : Array Value} {vl vu : Value} {lo hi : Option Int} {Q : Value -> Shared -> Prop} (ht : IsTup s.heap t items) (hs : s.heap.IsSliceOf sl vl vu .none) (pl : IsPart vl lo) (pu : IsPart vu hi)
  (hw : ¬ (sIx items.size 0 lo = 0 /\ sIx items.size items.size hi = items.size))
  (h : Q (.ref s.heap.objs.size) { s with heap := s.heap.push { cls := .type "tuple", data := .seq ((items.toList.drop (sIx items.size 0 lo)).take (sIx items.size items.size hi - sIx items.size 0 lo)).toArray } })
  (hsz : items.size <= sizeLine) : wpAny (model prog w) A (getItem (.ref t) (.ref sl)) Q E s := by
 have htake : sizeOk (.seq ((items.toList.drop (sIx items.size 0 lo)).take (sIx items.size items.size hi - sIx items.size 0 lo)).toArray) := by
  show ((items.toList.drop (sIx items.size 0 lo)).take (sIx items.size items.size hi - sIx items.size 0 lo)).toArray.size <= sizeLine
  rw [List.size_toArray, List.length_take, List.length_drop, Array.length_toList]
  lia
 have hj : sIx items.size items.size hi <= items.size := sIx_le _ _ (Nat.le_refl _) hi
 obtain ⟨os, hos, hcs, hds⟩ := id hs
 have hTs : s.TypeIs (.ref sl) "slice" := ⟨os, hos, hcs⟩
 unfold getItem
 try with_reducible refine wpAny_holding ?_
 first | refine wpAny_bind (wpAny_pure ?_) | skip
 refine wpAny_bind (wpAny_sequenceKey ht.typeIs (by decide) ?_)
 refine wpAny_bind (wpAny_callSpecial?_slot (name := Str.ofString "__getitem__") ht.typeIs PyProof.Rows.slot_tuple_getitem
  (wpAny_call_entry PyProof.Rows.slot_tuple_getitem ht.typeIs entry_tuple_getitem ?_ (args_tuple_getitem _ _)))
 show wpAny _ _ (Builtin.Tuple.tupleItemsOf (.ref t) >>= _) _ _ s
 refine wpAny_bind (tupleItemsOf_ ht ?_)
 refine wpAny_bind (wpAny_typeOf hTs ?_)
 rw [if_pos (by decide)]
 refine wpAny_bind (Zcz hs pl pu ?_)
 have hno : ¬ ((((sIx items.size 0 lo : Nat) : Int) == 0 && (1 : Int) == 1 && (sIx items.size items.size hi - sIx items.size 0 lo) == items.size) = true) := by
  intro q
  rw [Bool.and_eq_true, Bool.and_eq_true] at q
  have q1 : ((sIx items.size 0 lo : Nat) : Int) = 0 := eq_of_beq q.1.1
  have q2 : sIx items.size items.size hi - sIx items.size 0 lo = items.size := eq_of_beq q.2
  exact hw ⟨by lia, by lia⟩
 show wpAny _ _ (if (((sIx items.size 0 lo : Nat) : Int) == 0 && (1 : Int) == 1 && (sIx items.size items.size hi - sIx items.size 0 lo) == items.size) = true then _ else _) _ _ s
 rw [if_neg hno, Zkn]
 first
  | exact wpAny_bind (m := Builtin.Tuple.tupleExact _) (wpAny_newObj_type (wpAny_pure ⟨_, rfl, wpAny_pure h⟩) htake)
  | exact wpAny_bind (m := Builtin.Tuple.tupleExact _) (wpAny_newObj_type (wpAny_bind (wpAny_pure (wpAny_pure ⟨_, rfl, wpAny_pure h⟩))) htake)
  | exact wpAny_bind (wpAny_bind (m := Builtin.Tuple.tupleExact _) (wpAny_newObj_type (wpAny_pure (wpAny_pure ⟨_, rfl, wpAny_pure h⟩)) htake))
  | exact wpAny_bind (wpAny_bind (m := Builtin.Tuple.tupleExact _) (wpAny_newObj_type (wpAny_pure ⟨_, rfl, wpAny_pure h⟩) htake))
end
end HT
namespace L2
open PySem PySem.Spec PyProof.Rows
noncomputable abbrev TO := St -> Hp -> (Option Int -> Hp -> Prop) -> Prop
noncomputable def PO (X : Cx) (e : Option Expr) (t : TO) : Prop :=
 ∀ (pins : List (Addr × Obj)) (s : Shared) (σ : St) (H : Hp) (Q : Option Int -> Hp -> Prop), Inv X pins σ H s -> t σ H Q ->
  wpAny (model X.prog X.w) X.A (evalPart e X.env) (fun u s' => ∃ o H', Inv X pins σ H' s' /\ IsPart u o /\ Q o H') X.xe s
noncomputable def Zh4 : TO := fun _ H Q => Q none H
noncomputable def tPart (t : TE) : TO := fun σ H Q => t σ H fun x H1 => ∃ i, x = .int i /\ Q (some i) H1
theorem ZhB {ns : List Int} : ∀ {us : List Value}, Vals (ns.map V.int) us -> IntsAre us ns := by
  induction ns with
  | nil => intro us r; rw [List.map_nil] at r; cases r; exact .nil
  | cons n ns ih =>
    intro us r
    rw [List.map_cons] at r
    cases r with
    | cons r1 r2 =>
      obtain ⟨t, e⟩ := r1
      subst e
      exact .cons n t (ih r2)
section
variable {X : Cx} {e : Expr} {te : TE} {lo hi : Option Expr} {tl th : TO} {pos p2 : Pos}
theorem ZaM : PO X none Zh4 := by
 intro pins s σ H Q I h
 rw [evalPart_none]
 exact wpAny_pure ⟨none, H, I, .none, h⟩
theorem ZaJ (h : PE X e te) : PO X (some e) (tPart te) := by
 intro pins s σ H Q I hw
 rw [evalPart_some]
 refine thn (h pins s σ H _ I hw) fun u s1 ⟨x, H1, I1, r1, q1⟩ => ?_
 obtain ⟨i, rfl, q⟩ := q1
 obtain ⟨t, rfl⟩ := r1
 exact ⟨some i, H1, I1, .int i t, q⟩
noncomputable def SlR (X : Cx) (r : V -> Option Int -> Option Int -> Hp -> VK -> Prop) : Prop :=
 ∀ (pins : List (Addr × Obj)) (s : Shared) (σ : St) (H : Hp) (x : V) (v vl vu : Value) (lo hi : Option Int) (sl : Addr) (Q : VK), Inv X pins σ H s -> RelV x v -> s.heap.IsSliceOf sl vl vu .none -> IsPart vl lo -> IsPart vu hi -> r x lo hi H Q ->
  ∃ T id, typeLookup (.type T) "__getitem__" = pure (some (.builtin id)) /\ s.TypeIs v T /\ wpAny (model X.prog X.w) X.A (getItem v (.ref sl)) (EP X pins σ Q) X.xe s
noncomputable def tSl (r : V -> Option Int -> Option Int -> Hp -> VK -> Prop) (te : TE) (tl th : TO) : TE := fun σ H Q => te σ H fun x H1 => tl σ H1 fun l H2 => th σ H2 fun u H3 => r x l u H3 Q
theorem ZaC {r : V -> Option Int -> Option Int -> Hp -> VK -> Prop} (hr : SlR X r) (he : PE X e te) (hl : PO X lo tl) (hu : PO X hi th) : PE X (.Subscript e (.Slice lo hi none p2) pos) (tSl r te tl th) := by
 intro pins s σ H Q I h
 refine Subscript_ (thn (he pins s σ H _ I h) fun v s1 ⟨x, H1, I1, r1, q1⟩ => ?_)
 refine wpAny_Slice (thn (hl pins s1 σ H1 _ I1 q1) fun vl s2 ⟨l, H2, I2, pl, q2⟩ => thn (hu pins s2 σ H2 _ I2 q2) fun vu s3 ⟨u, H3, I3, pu, q3⟩ => ?_)
 rw [evalPart_none]
 refine wpAny_pure ?_
 have I4 : Inv X pins σ H3 { s3 with heap := s3.heap.push { cls := .type "slice", data := .fields #[vl, vu, .none] } } := I3.kept (t' := s3.toks) fun b ob q => Heap.get?_push_of_some _ q
 obtain ⟨T, id, hT, ht, hg⟩ := hr pins { s3 with heap := s3.heap.push { cls := .type "slice", data := .fields #[vl, vu, .none] } } σ H3 x v vl vu l u s3.heap.objs.size Q I4 r1 (Heap.IsSliceOf.new ..) pl pu q3
 show wpAny (model X.prog X.w) X.A (subscriptTail e (.Slice lo hi none p2) v (.ref s3.heap.objs.size)) (EP X pins σ Q) X.xe { s3 with heap := s3.heap.push { cls := .type "slice", data := .fields #[vl, vu, .none] } }
 exact tail_any (ops := [.ref s3.heap.objs.size, v]) ht hT hg (by with_unfolding_all rfl)
noncomputable def cutV (xs : List V) (lo hi : Option Int) : List V := (xs.drop (HT.sIx xs.length 0 lo)).take (HT.sIx xs.length xs.length hi - HT.sIx xs.length 0 lo)
theorem Zep (xs : List V) (lo hi : Option Int) : (cutV xs lo hi).length <= xs.length := by
 unfold cutV
 rw [List.length_take, List.length_drop]
 lia
noncomputable def rSlT (K : PySem.W.Frag) : V -> Option Int -> Option Int -> Hp -> VK -> Prop := fun x lo hi H Q => ∃ a xs, x = .ref a /\ SqT K H a xs /\
 ¬ (HT.sIx xs.length 0 lo = 0 /\ HT.sIx xs.length xs.length hi = xs.length) /\ ∀ p, H p = none -> Q (.ref p) (upd H p (.tup (cutV xs lo hi)))
theorem Zk3 : SlR X (rSlT X.K) := by
 intro pins s σ H x v vl vu lo hi sl Q I rx hs pl pu h
 obtain ⟨a, xs, rfl, hx, hw, q⟩ := h
 cases rx
 obtain ⟨its, r, ht, hz⟩ := I.tuple hx
 have hlen : its.toArray.size = xs.length := by rw [List.size_toArray]; exact r.length.symm
 refine ⟨"tuple", _, PyProof.Rows.slot_tuple_getitem.lookup, ht.typeIs, ?_⟩
 refine HT.getItem_tuple_cut ht hs pl pu (by rw [hlen]; exact hw) ?_ (by rw [hlen]; exact hz)
 rw [hlen]
 refine ⟨.ref s.heap.objs.size, _, I.laid (t' := s.toks) (o := .tup (cutV xs lo hi)) (fun b ob q => Heap.get?_push_of_some _ q) (Nat.le_refl _) ?_, rfl, q _ (I.hok.fresh (Nat.le_refl _))⟩
 exact ⟨Nat.le_trans (Zep xs lo hi) hz, _, (r.drop (HT.sIx xs.length 0 lo)).take (HT.sIx xs.length xs.length hi - HT.sIx xs.length 0 lo), IsTup.new _ _⟩
noncomputable def rCatT (K : PySem.W.Frag) : R2 := fun x y H Q => ∃ a b xs ys, x = .ref a /\ y = .ref b /\ SqT K H a xs /\ SqT K H b ys /\ xs ≠ [] /\ xs.length + ys.length <= sizeLine /\
 (ys = [] -> Q (.ref a) H) /\ (ys ≠ [] -> ∀ p, H p = none -> Q (.ref p) (upd H p (.tup (xs ++ ys))))
theorem Vals.nil_iff {xs : List V} {us : List Value} (r : Vals xs us) : us = [] ↔ xs = [] := by
 cases r with
 | nil => simp
 | cons _ _ => simp
theorem ZiS : OpR X (binaryOp .Add) (rCatT X.K) := by
 intro pins s σ H x y v u Q I rx ry h
 obtain ⟨a, b, xs, ys, rfl, rfl, ha, hb, hx, hz, q1, q2⟩ := h
 cases rx
 cases ry
 obtain ⟨its, r1, p1, _⟩ := I.tuple ha
 obtain ⟨its2, r2, p2, _⟩ := I.tuple hb
 refine HT.cat_tup p1 p2 (fun z => hx (r1.nil_iff.mp z)) (fun z => ⟨.ref a, H, I, rfl, q1 (r2.nil_iff.mp z)⟩) (fun z => ?_) (by rw [<- r1.length, <- r2.length]; exact hz)
 refine ⟨.ref s.heap.objs.size, _, I.laid (t' := s.toks) (o := .tup (xs ++ ys)) (fun b ob q => Heap.get?_push_of_some _ q) (Nat.le_refl _) ?_, rfl, q2 (fun w => z (r2.nil_iff.mpr w)) _ (I.hok.fresh (Nat.le_refl _))⟩
 exact ⟨by rw [List.length_append]; exact hz, _, r1.append r2, IsTup.new _ _⟩
end
end L2
namespace L2
open PySem PySem.Spec PyProof.Rows
noncomputable def ixN (n : Nat) (i : Int) : Option Nat := if 0 <= i then (if i < n then some i.toNat else none) else if -(n : Int) <= i then some (i + n).toNat else none
noncomputable def atI {α : Type} (xs : List α) (i : Int) : Option α := (ixN xs.length i).bind fun j => xs[j]?
theorem Zjb {n : Nat} {i : Int} {j : Nat} (h : ixN n i = some j) : seqIndex? i n = some j /\ j < n /\ -(n : Int) <= i /\ i < n := by
 unfold ixN at h
 by_cases h0 : 0 <= i
 ·rw [if_pos h0] at h
  by_cases h1 : i < n
  ·rw [if_pos h1] at h
   have e : i.toNat = j := Option.some.inj h
   exact ⟨by rw [seqIndex_of h0 h1, e], by lia, by lia, h1⟩
  ·rw [if_neg h1] at h; cases h
 ·rw [if_neg h0] at h
  by_cases h1 : -(n : Int) <= i
  ·rw [if_pos h1] at h
   have e : (i + n).toNat = j := Option.some.inj h
   exact ⟨by rw [seqIndex_neg (by lia) h1, e], by lia, h1, by lia⟩
  ·rw [if_neg h1] at h; cases h
theorem ZgC {α : Type} {xs : List α} {i : Int} {v : α} (h : atI xs i = some v) : ∃ j, seqIndex? i xs.length = some j /\ xs[j]? = some v /\ j < xs.length /\ -(xs.length : Int) <= i /\ i < xs.length := by
  unfold atI at h
  cases e : ixN xs.length i with
  | none => rw [e] at h; cases h
  | some j =>
    rw [e] at h
    obtain ⟨h1, h2, h3, h4⟩ := Zjb e
    exact ⟨j, h1, h, h2, h3, h4⟩
theorem ZkV {α : Type} (xs : List α) (v : α) : atI (xs ++ [v]) (-1) = some v := by
 have hl : (xs ++ [v]).length = xs.length + 1 := by simp
 have e : ixN (xs ++ [v]).length (-1) = some xs.length := by
  unfold ixN
  rw [hl, if_neg (by decide), if_pos (by lia)]
  congr 1
  lia
 unfold atI
 rw [e]
 show (xs ++ [v])[xs.length]? = some v
 simp
noncomputable def ZmW (b : Expr) : Prop := ∀ o i, subscripted b false o i = operate [o, i] (getItem o i)
noncomputable def IxR (X : Cx) (r : R2) : Prop :=
 ∀ (value slice : Expr) (pins : List (Addr × Obj)) (s : Shared) (σ : St) (H : Hp) (x y : V) (v u : Value) (Q : VK), Inv X pins σ H s -> RelV x v -> RelV y u -> r x y H Q ->
  subscripted slice false v u = operate [v, u] (getItem v u) -> wpAny (model X.prog X.w) X.A (subscriptTail value slice v u) (EP X pins σ Q) X.xe s
noncomputable def MtR (X : Cx) (id : String) (r : V -> List V -> Hp -> VK -> Prop) : Prop :=
 ∀ (pins : List (Addr × Obj)) (s : Shared) (σ : St) (H : Hp) (x : V) (xs : List V) (v : Value) (us : List Value) (Q : VK), Inv X pins σ H s -> RelV x v -> Vals xs us -> r x xs H Q ->
  wpAny (model X.prog X.w) X.A (call (.builtin id) (v :: us)) (EP X pins σ Q) X.xe s
section
variable {X : Cx} {a b : Expr} {ta tb : TE} {pos : Pos}
theorem IxR.or {r r' : R2} (h : IxR X r) (h' : IxR X r') : IxR X (fun x y H Q => r x y H Q \/ r' x y H Q) := by
 intro value slice pins s σ H x y v u Q I rx ry q hs
 rcases q with q | q
 ·exact h value slice pins s σ H x y v u Q I rx ry q hs
 ·exact h' value slice pins s σ H x y v u Q I rx ry q hs
theorem Zao {r : R2} (hr : IxR X r) (ha : PE X a ta) (hb : PE X b tb) (hs : ZmW b) : PE X (.Subscript a b pos) (tOp r ta tb) := by
 intro pins s σ H Q I h
 exact Subscript_ (binT ha hb I h fun v u s2 x y H2 I2 rx ry q => hr a b pins s2 σ H2 x y v u Q I2 rx ry q (hs _ _))
noncomputable def rIxL (K : PySem.W.Frag) : R2 := fun x y H Q => ∃ p xs i v, x = .ref p /\ y = .int i /\ SqL K H p xs /\ atI xs i = some v /\ Q v H
noncomputable def rIxT (K : PySem.W.Frag) : R2 := fun x y H Q => ∃ p xs i v, x = .ref p /\ y = .int i /\ SqT K H p xs /\ atI xs i = some v /\ Q v H
noncomputable def rIxS : R2 := fun x y H Q => ∃ z i c, x = .str z /\ y = .int i /\ z.length <= sizeLine /\ atI z.cps.toList i = some c /\ Q (.str ⟨#[c]⟩) H
theorem ix_list : IxR X (rIxL X.K) := by
 intro value slice pins s σ H x y v u Q I rx ry h hs
 obtain ⟨p, xs, i, z, rfl, rfl, hq, he, q⟩ := h
 cases rx
 obtain ⟨t, rfl⟩ := ry
 obtain ⟨its, r, pl, hz⟩ := I.list hq
 obtain ⟨j, h1, h2, h3, h4, h5⟩ := ZgC he
 obtain ⟨w, ew, rw'⟩ := r.get h2
 have hl := r.length
 have hn := Zfy
 have fin : EP X pins σ Q w s := ⟨z, H, I, rw', q⟩
 by_cases h0 : 0 <= i
 ·have hj : i.toNat = j := by
   rw [seqIndex_of h0 h5] at h1
   exact Option.some.inj h1
  exact item_listR pl.isList h0 (by lia) (by rw [hj]; simpa using ew) fin hs
 ·have hj : (i + (its.toArray.size : Int)).toNat = j := by
   rw [seqIndex_neg (by lia) h4] at h1
   rw [List.size_toArray, <- hl]
   exact Option.some.inj h1
  exact subscriptTail_builtinR (x := w) pl.isList.typeIs slot_list_getitem.lookup
   (wpAny_getItem_list_neg (Q := fun r s' => r = w /\ EP X pins σ Q r s') pl.isList (by lia) (by rw [List.size_toArray] <;> lia) (by lia) (by rw [hj]; simpa using ew) ⟨rfl, fin⟩) hs
theorem ix_tup : IxR X (rIxT X.K) := by
 intro value slice pins s σ H x y v u Q I rx ry h hs
 obtain ⟨p, xs, i, z, rfl, rfl, hq, he, q⟩ := h
 cases rx
 obtain ⟨t, rfl⟩ := ry
 obtain ⟨its, r, pl, hz⟩ := I.tuple hq
 obtain ⟨j, h1, h2, h3, h4, h5⟩ := ZgC he
 obtain ⟨w, ew, rw'⟩ := r.get h2
 have hl := r.length
 have hn := Zfy
 have fin : EP X pins σ Q w s := ⟨z, H, I, rw', q⟩
 exact subscriptTail_builtinR (x := w) pl.typeIs slot_tuple_getitem.lookup
  (getItem_tuple (j := j) (Q := fun r s' => r = w /\ EP X pins σ Q r s') pl (by lia) (by lia) (by rw [List.size_toArray, <- hl]; exact h1) (by simpa using ew) ⟨rfl, fin⟩) hs
theorem Zja : IxR X rIxS := by
 intro value slice pins s σ H x y v u Q I rx ry h hs
 obtain ⟨z, i, c, rfl, rfl, hz, he, q⟩ := h
 obtain ⟨t, rfl⟩ := rx
 obtain ⟨t', rfl⟩ := ry
 obtain ⟨j, h1, h2, h3, h4, h5⟩ := ZgC he
 have hl : z.cps.toList.length = z.length := by simp [Str.length]
 rw [hl] at h1 h4 h5
 have hn := Zfy
 exact tail_any (typeIs_str s z t) slot_str_getitem.lookup (getItem_str (c := c) (by
  have e1 : decide (i < -(2 ^ 63 : Int)) = false := decide_eq_false (by lia)
  have e2 : decide (i ≥ 2 ^ 63) = false := decide_eq_false (by lia)
  rw [e1, e2, Bool.or_false]) (by rw [h1]; simpa using h2) ⟨.str ⟨#[c]⟩, H, I.tok _, ⟨_, rfl⟩, q⟩) hs
theorem Zhz (its : List Value) (n j : Nat) (u : Value) : Obj.mapSeq (·.setIfInBounds j u) { cls := .type "list", data := .seq its.toArray n } = { cls := .type "list", data := .seq (its.set j u).toArray n } := by
 simp [Obj.mapSeq]
theorem Inv.lst {pins : List (Addr × Obj)} {σ : St} {H : Hp} {s : Shared} {p : Addr} {xs : List V} (I : Inv X pins σ H s) (h : H p = some (.lst xs)) :
  ∃ (its : List Value) (n : Nat), Vals xs its /\ s.heap.get? p = some { cls := .type "list", data := .seq its.toArray n } /\ xs.length <= sizeLine := by
 obtain ⟨z, its, n, r, e⟩ := I.hok p _ h
 exact ⟨its, n, r, e, z⟩
theorem Inv.lstUpd {pins : List (Addr × Obj)} {σ : St} {H : Hp} {s : Shared} {p : Addr} {xs ys : List V} {its its' : List Value} {n n' : Nat} {f : Obj -> Obj} (I : Inv X pins σ H s) (h : H p = some (.lst xs))
  (ho : s.heap.get? p = some { cls := .type "list", data := .seq its.toArray n }) (hf : f { cls := .type "list", data := .seq its.toArray n } = { cls := .type "list", data := .seq its'.toArray n' }) (r : Vals ys its') (hz : ys.length <= sizeLine) (t : Nat) :
  Inv X pins σ (upd H p (.lst ys)) { s with heap := s.heap.update p f, toks := t } := by
 have e : (s.heap.update p f).get? p = some { cls := .type "list", data := .seq its'.toArray n' } := by
  rw [Heap.get?_update_self f ho (by rw [hf] <;> rfl), hf]
 refine I.write (x := p) (e := p) (by rw [h]; trivial) (.inl rfl) (fun b u hb q => (Heap.get?_update_other _ _ (Ne.symm hb)).trans q) ⟨_, e⟩ ?_
 exact ⟨hz, its', n', r, e⟩
noncomputable def Zmc : V -> V -> V -> Hp -> (Hp -> Prop) -> Prop := fun o i v H Q => ∃ p xs k j, o = .ref p /\ i = .int k /\ H p = some (.lst xs) /\ ixN xs.length k = some j /\ Q (upd H p (.lst (xs.set j v)))
theorem Zda : PSet X Zmc := by
 intro pins s σ H o i v ov iv u Q I ro ri rv h
 obtain ⟨p, xs, k, j, rfl, rfl, hp, hj, q⟩ := h
 cases ro
 obtain ⟨t, rfl⟩ := ri
 obtain ⟨its, n, r, ho, hz⟩ := I.lst hp
 obtain ⟨h1, h2, h3, h4⟩ := Zjb hj
 have hl := r.length
 have hn := Zfy
 have I' : Inv X pins σ (upd H p (.lst (xs.set j v))) { s with heap := s.heap.update p (Obj.mapSeq (·.setIfInBounds j u)) } :=
  I.lstUpd hp ho (Zhz its n j u) (r.set rv j) (by rw [List.length_set]; exact hz) s.toks
 by_cases h0 : 0 <= k
 ·have hk : k.toNat = j := by
   rw [seqIndex_of h0 h4] at h1
   exact Option.some.inj h1
  exact PySem.W.ki_setAt ho h0 (by lia) (by rw [List.size_toArray, <- hl]; exact h4) (by rw [hk]; exact ⟨_, I', q⟩)
 ·have hk : (k + (its.toArray.size : Int)).toNat = j := by
   rw [seqIndex_neg (by lia) h3] at h1
   rw [List.size_toArray, <- hl]
   exact Option.some.inj h1
  exact PySem.W.ki_setBack ho (by lia) (by rw [List.size_toArray, <- hl]; exact h3) (by lia) (by rw [hk]; exact ⟨_, I', q⟩)
theorem Zfn (lo hi : Option Int) (n : Nat) : (sliceBounds lo hi none n).1 = ((HT.sIx n 0 lo : Nat) : Int) /\ (sliceBounds lo hi none n).2.1 = ((HT.sIx n n hi : Nat) : Int) /\ (sliceBounds lo hi none n).2.2 = 1 := by
  refine ⟨?_, ?_, rfl⟩
  · cases lo with
    | none => simp [sliceBounds, HT.sIx]
    | some i =>
      simp only [sliceBounds, HT.sIx, Option.getD_none, show (1 : Int) > 0 by decide, if_true]
      by_cases h : i < 0
      · simp only [h, if_true] <;> lia
      · simp only [h, if_false] <;> lia
  · cases hi with
    | none => simp [sliceBounds, HT.sIx]
    | some i =>
      simp only [sliceBounds, HT.sIx, Option.getD_none, show (1 : Int) > 0 by decide, if_true]
      by_cases h : i < 0
      · simp only [h, if_true] <;> lia
      · simp only [h, if_false] <;> lia
theorem ZeV (its : List Value) (lo hi : Option Int) : slicePick its.toArray lo hi none = ((its.drop (HT.sIx its.length 0 lo)).take (HT.sIx its.length its.length hi - HT.sIx its.length 0 lo)).toArray := by
 obtain ⟨h1, h2, h3⟩ := Zfn lo hi its.toArray.size
 unfold slicePick
 rw [h1, h2, h3]
 simp only [sliceRange_one, pick_run, List.size_toArray] <;> rfl
noncomputable def rSlL (K : PySem.W.Frag) : V -> Option Int -> Option Int -> Hp -> VK -> Prop := fun x lo hi H Q => ∃ a xs, x = .ref a /\ SqL K H a xs /\ ∀ p, H p = none -> Q (.ref p) (upd H p (.lst (cutV xs lo hi)))
theorem ZlH : SlR X (rSlL X.K) := by
 intro pins s σ H x v vl vu lo hi sl Q I rx hs pl pu h
 obtain ⟨a, xs, rfl, hx, q⟩ := h
 cases rx
 obtain ⟨its, r, ht, hz⟩ := I.list hx
 have hlen := r.length
 refine ⟨"list", _, slot_list_getitem.lookup, ht.isList.typeIs, ?_⟩
 refine wpAny_getItem_list_slice ht.isList hs pl pu .none (by simp) ?_ (by rw [List.size_toArray] <;> lia)
 rw [ZeV, <- hlen]
 refine ⟨.ref s.heap.objs.size, _, I.laid (t' := s.toks) (o := .lst (cutV xs lo hi)) (fun b ob q => Heap.get?_push_of_some _ q) (Nat.le_refl _) ?_, rfl, q _ (I.hok.fresh (Nat.le_refl _))⟩
 exact ⟨Nat.le_trans (Zep xs lo hi) hz, _, 0, (r.drop (HT.sIx xs.length 0 lo)).take (HT.sIx xs.length xs.length hi - HT.sIx xs.length 0 lo), Heap.get?_push_size _ rfl⟩
noncomputable def ZfF : V -> Bool
 | .non => true
 | .bl _ => true
 | .int _ => true
 | .str _ => true
 | _ => false
noncomputable def eqV : V -> V -> Bool
 | .non, .non => true
 | .bl a, .bl b => a == b
 | .bl a, .int b => (if a then 1 else 0) == b
 | .int a, .bl b => a == (if b then 1 else 0)
 | .int a, .int b => a == b
 | .str a, .str b => a == b
 | _, _ => false
theorem eqAt_V {A : Around} {s : Shared} {y x : V} {u v : Value} (ry : RelV y u) (rx : RelV x v) (fy : ZfF y = true) (fx : ZfF x = true) : SeqAt.EqAt A s u v (eqV y x) := by
  cases y with
  | non =>
    cases ry
    cases x with
    | non => cases rx; exact SeqAt.EqAt.same _
    | bl b => cases rx; exact SeqAt.EqAt.none_bool b
    | int b => obtain ⟨t, rfl⟩ := rx; exact SeqAt.EqAt.none_int b t
    | str b => obtain ⟨t, rfl⟩ := rx; exact SeqAt.EqAt.none_str b t
    | _ => exact absurd (show false = true from fx) Bool.false_ne_true
  | bl a =>
    cases ry
    cases x with
    | non => cases rx; exact SeqAt.EqAt.bool_none a
    | bl b => cases rx; exact SeqAt.EqAt.bool_bool a b
    | int b => obtain ⟨t, rfl⟩ := rx; exact SeqAt.EqAt.bool_int a b t
    | str b => obtain ⟨t, rfl⟩ := rx; exact SeqAt.EqAt.bool_str a b t
    | _ => exact absurd (show false = true from fx) Bool.false_ne_true
  | int a =>
    obtain ⟨t', rfl⟩ := ry
    cases x with
    | non => cases rx; exact SeqAt.EqAt.int_none a t'
    | bl b => cases rx; exact SeqAt.EqAt.int_bool a t' b
    | int b => obtain ⟨t, rfl⟩ := rx; exact SeqAt.EqAt.int_int a t' b t
    | str b => obtain ⟨t, rfl⟩ := rx; exact SeqAt.EqAt.int_str a t' b t
    | _ => exact absurd (show false = true from fx) Bool.false_ne_true
  | str a =>
    obtain ⟨t', rfl⟩ := ry
    cases x with
    | non => cases rx; exact SeqAt.EqAt.str_none a t'
    | bl b => cases rx; exact SeqAt.EqAt.str_bool a t' b
    | int b => obtain ⟨t, rfl⟩ := rx; exact SeqAt.EqAt.str_int a t' b t
    | str b => obtain ⟨t, rfl⟩ := rx; exact SeqAt.EqAt.str_str a t' b t
    | _ => exact absurd (show false = true from fx) Bool.false_ne_true
  | _ => exact absurd (show false = true from fy) Bool.false_ne_true
noncomputable def eqU (x : V) (u : Value) : Bool := match u with
 | .none => eqV .non x
 | .bool b => eqV (.bl b) x
 | .int i _ => eqV (.int i) x
 | .str z _ => eqV (.str z) x
 | _ => false
theorem Zlm {x y : V} {u : Value} (r : RelV y u) (f : ZfF y = true) : eqU x u = eqV y x := by
 cases y with
 | non => cases r; rfl
 | bl b => cases r; rfl
 | int i => obtain ⟨t, rfl⟩ := r; rfl
 | str z => obtain ⟨t, rfl⟩ := r; rfl
 | _ => exact absurd (show false = true from f) Bool.false_ne_true
theorem ZgD {x : V} : ∀ {xs : List V} {us : List Value}, Vals xs us -> xs.all ZfF = true -> us.any (eqU x) = xs.any fun y => eqV y x
  | _, _, .nil, _ => rfl
  | y :: xs, u :: us, .cons r t, f => by
    rw [List.all_cons, Bool.and_eq_true] at f
    rw [List.any_cons, List.any_cons, Zlm r f.1, ZgD t f.2]
theorem Ze2 {A : Around} {s : Shared} {x : V} {v : Value} (rx : RelV x v) (fx : ZfF x = true) : ∀ {xs : List V} {us : List Value}, Vals xs us -> xs.all ZfF = true -> ∀ u ∈ us, SeqAt.EqAt A s u v (eqU x u)
  | _, _, .nil, _ => fun u hu => by cases hu
  | y :: xs, u :: us, .cons r t, f => fun u' hu => by
    rw [List.all_cons, Bool.and_eq_true] at f
    rcases List.mem_cons.mp hu with rfl | hu
    · rw [Zlm r f.1]; exact eqAt_V r rx f.1 fx
    · exact Ze2 rx fx t f.2 u' hu
noncomputable def inV (x : V) (xs : List V) : Bool := xs.any fun y => eqV y x
noncomputable def rIn (K : PySem.W.Frag) (neg : Bool) : R2 := fun x y H Q => ∃ p xs, y = .ref p /\ (SqL K H p xs \/ SqT K H p xs) /\ ZfF x = true /\ xs.all ZfF = true /\ Q (.bl (if neg then !inV x xs else inV x xs)) H
theorem ZiR : OpR X (compareOp .In) (rIn X.K false) := by
 intro pins s σ H x y v u Q I rx ry h
 obtain ⟨p, xs, rfl, hq, fx, fs, q⟩ := h
 cases ry
 rcases hq with hq | hq
 ·obtain ⟨its, r, pl, hz⟩ := I.list hq
  refine SeqAt.in_listAt (eqU x) pl.isList (fun w hw => Ze2 rx fx r fs w (by simpa using hw)) ⟨.bl _, H, I, rfl, ?_⟩
  rw [show its.toArray.any (eqU x) = its.any (eqU x) by simp, ZgD r fs]
  exact q
 ·obtain ⟨its, r, pl, hz⟩ := I.tuple hq
  refine SeqAt.in_tupleAt (eqU x) pl (fun w hw => Ze2 rx fx r fs w (by simpa using hw)) ⟨.bl _, H, I, rfl, ?_⟩
  rw [show its.toArray.any (eqU x) = its.any (eqU x) by simp, ZgD r fs]
  exact q
theorem ZfL : ZbU X (.type "list") (fun xs H Q => ∃ p ys, xs = [.ref p] /\ (SqL X.K H p ys \/ SqT X.K H p ys) /\ ∀ l, H l = none -> Q (.ref l) (upd H l (.lst ys))) := by
 intro pins s σ H xs us Q I r h
 obtain ⟨p, ys, rfl, hq, q⟩ := h
 obtain ⟨u, rfl, rx⟩ := Zev r
 cases rx
 have fin : ∀ (its : List Value), Vals ys its -> ys.length <= sizeLine -> ∀ (h' : Heap) (c' : Nat), (∀ b o', s.heap.get? b = some o' -> h'.get? b = some o') ->
   h'.get? s.heap.objs.size = some { cls := .type "list", dict := none, data := .seq its.toArray c', slots := #[] } -> EP X pins σ Q (.ref s.heap.objs.size) { s with heap := h' } := fun its r' hz h' c' kp e =>
  ⟨.ref s.heap.objs.size, _, I.laid (t' := s.toks) kp (Nat.le_refl _) (show ObjOk X.prog X.w _ h' _ (.lst ys) from ⟨hz, its, c', r', e⟩), rfl, q _ (I.hok.fresh (Nat.le_refl _))⟩
 rcases hq with hq | hq
 ·obtain ⟨its, r', pl, hz⟩ := I.list hq
  have hlen := r'.length
  obtain ⟨o, ho, hc, n, hd⟩ := pl.isList
  exact call_list_seq p (.inl rfl) ho hc hd (fun h' c' kp e => fin its r' hz h' c' kp e) (by simp only [List.size_toArray] <;> lia)
 ·obtain ⟨its, r', pl, hz⟩ := I.tuple hq
  have hlen := r'.length
  obtain ⟨o, ho, hc, n, hd⟩ := pl
  exact call_list_seq p (.inr rfl) ho hc hd (fun h' c' kp e => fin its r' hz h' c' kp e) (by simp only [List.size_toArray] <;> lia)
theorem Zfe : ZbU X (.type "tuple") (fun xs H Q => ∃ p ys, xs = [.ref p] /\ ((SqL X.K H p ys /\ ∀ l, H l = none -> Q (.ref l) (upd H l (.tup ys))) \/ (SqT X.K H p ys /\ Q (.ref p) H))) := by
 intro pins s σ H xs us Q I r h
 obtain ⟨p, ys, rfl, h⟩ := h
 obtain ⟨u, rfl, rx⟩ := Zev r
 cases rx
 rcases h with ⟨hq, q⟩ | ⟨hq, q⟩
 ·obtain ⟨its, r', pl, hz⟩ := I.list hq
  have hlen := r'.length
  refine call_tuple_list pl.isList (fun h' kp => ?_) (by simp only [List.size_toArray] <;> lia)
  have I1 : Inv X pins σ H { s with heap := h' } := I.kept (t' := s.toks) kp
  have I2 : Inv X pins σ (upd H h'.objs.size (.tup ys)) { s with heap := h'.push { cls := .type "tuple", data := .seq its.toArray } } :=
   I1.laid (t' := s.toks) (fun b o e => Heap.get?_push_of_some _ e) (Nat.le_refl _) (show ObjOk X.prog X.w _ _ _ (.tup ys) from ⟨hz, its, r', IsTup.new _ _⟩)
  exact ⟨.ref h'.objs.size, _, I2, rfl, q _ (I1.hok.fresh (Nat.le_refl _))⟩
 ·obtain ⟨its, r', pl, hz⟩ := I.tuple hq
  exact call_tuple_same pl ⟨.ref p, H, I, rfl, q⟩
noncomputable def tyV (K : PySem.W.Frag) (T : String) (x : V) (H : Hp) : Prop := match x with
 | .str _ => T = "str"
 | .int _ => T = "int"
 | .ref p => (T = "list" /\ ∃ xs, SqL K H p xs) \/ (T = "tuple" /\ ∃ o, K.lookup p = some o /\ o.cls = .type "tuple" /\ o.dict = none) \/
   (T = "dict" /\ ((∃ kvs, H p = some (.dK kvs)) \/ ∃ kvs, H p = some (.dT kvs))) \/ (T = "set" /\ ∃ S n, H p = some (.set S n))
 | _ => False
theorem tyV_is {pins : List (Addr × Obj)} {σ : St} {H : Hp} {s : Shared} {T : String} {x : V} {v : Value} (I : Inv X pins σ H s) (r : RelV x v) (ty : tyV X.K T x H) :
    s.TypeIs v T /\ ∀ a, v = .ref a -> ∃ ob, s.heap.get? a = some ob /\ ob.dict = none := by
  cases x with
  | str z =>
    obtain ⟨t, rfl⟩ := r
    cases (show T = "str" from ty)
    exact ⟨typeIs_str s z t, fun _ e => nomatch e⟩
  | int i =>
    obtain ⟨t, rfl⟩ := r
    cases (show T = "int" from ty)
    exact ⟨typeIs_int s i t, fun _ e => nomatch e⟩
  | ref p =>
    cases r
    rcases ty with ⟨rfl, xs, hq⟩ | ⟨rfl, o, hk, hc, hd⟩ | ⟨rfl, hk⟩ | ⟨rfl, S, n, hk⟩
    · obtain ⟨its, _, pl, _⟩ := I.list hq
      refine ⟨pl.isList.typeIs, fun a e => ?_⟩
      cases e
      obtain ⟨o, n, e, c, hd, _⟩ := pl
      exact ⟨o, e, hd⟩
    · refine ⟨⟨o, I.kIn p o hk, hc⟩, fun a e => ?_⟩
      cases e
      exact ⟨o, I.kIn _ o hk, hd⟩
    · have z : ∃ o, s.heap.get? p = some o /\ o.ExactDict := by
        rcases hk with ⟨kvs, hk⟩ | ⟨kvs, hk⟩
        · obtain ⟨_, _, _, _, o, _, _, e, ex, _⟩ := I.hok p _ hk
          exact ⟨o, e, ex⟩
        · obtain ⟨_, _, _, _, o, _, _, e, ex, _⟩ := I.hok p _ hk
          exact ⟨o, e, ex⟩
      obtain ⟨o, e, ex⟩ := z
      refine ⟨⟨o, e, ex.1⟩, fun a e2 => ?_⟩
      cases e2
      exact ⟨o, e, ex.2.1⟩
    · obtain ⟨o, _, _, _, e, ex, _⟩ := I.hok p _ hk
      refine ⟨⟨o, e, ex.1⟩, fun a e2 => ?_⟩
      cases e2
      exact ⟨o, e, ex.2.1⟩
  | _ => exact False.elim ty
noncomputable def tBM (K : PySem.W.Frag) (T : String) (r : V -> List V -> Hp -> VK -> Prop) (to : TE) (t : TA) : TE := fun σ H Q => to σ H fun x H1 => tyV K T x H1 /\ t σ H1 fun xs H2 => r x xs H2 Q
variable {o e : Expr} {es : List Expr} {to : TE} {t : TA} {name : Str} {apos cpos : Pos} {T id : String} {r : V -> List V -> Hp -> VK -> Prop}
theorem pe_bm (pa : PlainAttrs T) (slot : Slot T name id) (hty : typeOf (.builtin id) = pure (.type "method_descriptor")) (hm : MtR X id r) (ho : PE X o to) (ha : PA X (e :: es) t)
  (hbase : attributeBase o name X.env (eval o X.env) = eval o X.env := by rfl)
  (hfew : ((backTo cpos (starEach (e :: es) X.env)).all (fun x => !x.1) && (backToKw cpos (keywordEach [] X.env)).all (fun x => x.1.isSome)
   && decide ((e :: es).length + ([] : List Keyword).length + (if ([] : List Keyword).isEmpty then 0 else 1) < 30)) = true := by rfl)
  (hline : (apos.endLine == cpos.line) = true := by rfl) (hs : starEach (e :: es) X.env = (false, eval e X.env) :: starEach es X.env := by rfl) (hplain : (backTo cpos (starEach es X.env)).any (·.1) = false := by rfl) :
  PE X (.Call (.Attribute o name apos) (e :: es) [] cpos) (tBM X.K T r to t) := by
 intro pins s σ H Q I h
 refine wpAny_Call_method_late hbase hfew hline rfl (thn (ho pins s σ H _ I h) fun v s1 ⟨x, H1, I1, r1, ty, q1⟩ => ?_)
 obtain ⟨h1, h2⟩ := tyV_is I1 r1 ty
 refine ⟨T, id, pa, slot, hty, h1, h2, ?_⟩
 have hA := ha cpos pins s1 σ H1 _ I1 q1
 rw [hs] at hA ⊢
 refine Calls.callWith_builtin (by show (false || (backTo cpos (starEach es X.env)).any (·.1)) = false; rw [hplain] <;> rfl) (Calls.evalArgs_plain ?_)
 exact thn hA fun us s2 ⟨vs, H2, I2, r2, q2⟩ => hm pins s2 σ H2 x vs v us Q I2 r1 r2 q2
/- xs.append(e), list.index on a module's tuple .. are MtR facts of 06m -/
end
end L2
namespace L2
open PySem PySem.Spec PyProof.Rows
noncomputable def MtM (X : Cx) (id : String) (r : V -> List V -> Hp -> VK -> Prop) : Prop :=
 ∀ (pins : List (Addr × Obj)) (s : Shared) (σ : St) (H : Hp) (x : V) (xs : List V) (v : Value) (us : List Value) (Q : VK), Inv X pins σ H s -> RelV x v -> Vals xs us -> r x xs H Q ->
  wpAny (model X.prog X.w) X.A (call (.builtin id) (v :: us)) (EP X pins σ Q) X.xe s
theorem Vals.consI {x : V} {xs : List V} {us : List Value} (h : Vals (x :: xs) us) : ∃ u ws, us = u :: ws /\ RelV x u /\ Vals xs ws := by
 cases h with
 | cons r t => exact ⟨_, _, rfl, r, t⟩
theorem Vals.nilI {us : List Value} (h : Vals [] us) : us = [] := by
 cases h
 rfl
theorem Vals.one {x : V} {us : List Value} (h : Vals [x] us) : ∃ u, us = [u] /\ RelV x u := by
 obtain ⟨u, ws, rfl, r, t⟩ := h.consI
 exact ⟨u, by rw [t.nilI], r⟩
theorem Vals.rep {xs : List V} {us : List Value} (h : Vals xs us) : ∀ k : Nat, Vals (List.replicate k xs).flatten (List.replicate k us).flatten
  | 0 => .nil
  | k + 1 => by
    rw [List.replicate_succ, List.replicate_succ, List.flatten_cons, List.flatten_cons]
    exact Vals.append h (Vals.rep h k)
theorem ZfD (its : List Value) : ∀ (k : Nat) (acc : List Value),
    List.foldl (fun x1 x2 => x1 ++ x2) acc.toArray (List.replicate k its.toArray) = (acc ++ (List.replicate k its).flatten).toArray
  | 0, acc => by simp
  | k + 1, acc => by
    have e : acc.toArray ++ its.toArray = (acc ++ its).toArray := by simp
    have e2 : (acc ++ its) ++ (List.replicate k its).flatten = acc ++ (List.replicate (k + 1) its).flatten := by
      rw [List.replicate_succ, List.flatten_cons, List.append_assoc]
    rw [<- e2, <- ZfD its k (acc ++ its), <- e, List.replicate_succ, List.foldl_cons]
section
variable {X : Cx} {pins : List (Addr × Obj)} {σ : St} {H : Hp} {s : Shared} {l b : Addr} {xs ys zs : List V}
theorem Inv.lset {its its' : List Value} {n : Nat} {f : Array Value -> Array Value} {t' : Nat} (I : Inv X pins σ H s) (hH : H l = some (.lst xs))
  (e : s.heap.get? l = some { cls := .type "list", data := .seq its.toArray n }) (hf : f its.toArray = its'.toArray) (hv : Vals ys its') (hz : ys.length <= sizeLine) :
  Inv X pins σ (upd H l (.lst ys)) { s with heap := s.heap.update l (Obj.mapSeq f), toks := t' } := by
 have q := PySem.IsL.update e f
 rw [hf] at q
 refine I.write (x := l) (e := l) (by rw [hH]; exact trivial) (.inl rfl) (fun b' u hb hu => (Heap.get?_update_other s.heap (Obj.mapSeq f) (Ne.symm hb)).trans hu) ⟨_, q⟩ ?_
 exact ⟨hz, its', _, hv, q⟩
theorem Inv.lnew {its : List Value} {t' : Nat} (I : Inv X pins σ H s) (hv : Vals ys its) (hz : ys.length <= sizeLine) :
  Inv X pins σ (upd H s.heap.objs.size (.lst ys)) { s with heap := s.heap.push { cls := .type "list", data := .seq its.toArray }, toks := t' } :=
 I.laid (fun _ _ q => Heap.get?_push_of_some _ q) (Nat.le_refl _) ⟨hz, its, 0, hv, Heap.get?_push_size _ rfl⟩
theorem Inv.fresh (I : Inv X pins σ H s) : H s.heap.objs.size = none := I.hok.fresh (Nat.le_refl _)
theorem Inv.lstM (I : Inv X pins σ H s) (hH : H l = some (.lst xs)) : xs.length <= sizeLine /\ ∃ (its : List Value) (n : Nat), Vals xs its /\ xs.length = its.length /\ s.heap.get? l = some { cls := .type "list", data := .seq its.toArray n } := by
 obtain ⟨z, its, n, r, e⟩ := I.hok l _ hH
 exact ⟨z, its, n, r, r.length, e⟩
theorem Zg2 {n : Nat} (h : n <= sizeLine) : Builtin.List.listTooLong n = false := by
 unfold Builtin.List.listTooLong
 exact decide_eq_false (by lia)
end
section
variable {X : Cx}
noncomputable def ZiD : V -> List V -> Hp -> VK -> Prop := fun x vs H Q => ∃ l xs y, x = .ref l /\ vs = [y] /\ H l = some (.lst xs) /\ xs.length < sizeLine /\ Q .non (upd H l (.lst (xs ++ [y])))
theorem Zcq : MtM X "list.append" ZiD := by
 intro pins s σ H x vs v us Q I rx rv h
 obtain ⟨l, xs, y, rfl, rfl, hH, hz, q⟩ := h
 cases rx
 obtain ⟨u, rfl, ru⟩ := rv.one
 obtain ⟨z, its, n, r, hl, e⟩ := I.lstM hH
 refine call_meets F.slot_list_append ⟨_, e, rfl⟩ F.entry_list_append (F.args_list_append_2 _ _) (PySem.list_append l its.toArray n u (by rw [List.size_toArray]; lia)) ⟨e, ?_⟩
 refine ⟨.non, _, I.lset (its' := its ++ [u]) hH e (by simp) (r.append (.cons ru .nil)) ?_, rfl, q⟩
 rw [List.length_append, List.length_singleton]
 lia
noncomputable def Zme : V -> List V -> Hp -> VK -> Prop := fun x vs H Q => ∃ l b xs zs, x = .ref l /\ vs = [.ref b] /\ H l = some (.lst xs) /\ H b = some (.lst zs) /\ xs.length + zs.length <= sizeLine /\ Q .non (upd H l (.lst (xs ++ zs)))
theorem mt_extend : MtM X "list.extend" Zme := by
 intro pins s σ H x vs v us Q I rx rv h
 obtain ⟨l, b, xs, zs, rfl, rfl, hH, hB, hz, q⟩ := h
 cases rx
 obtain ⟨u, rfl, ru⟩ := rv.one
 cases ru
 obtain ⟨z, its, n, r, hl, e⟩ := I.lstM hH
 obtain ⟨z2, its2, n2, r2, hl2, e2⟩ := I.lstM hB
 have hsz : its.toArray.size + its2.toArray.size <= sizeLine := by rw [List.size_toArray, List.size_toArray]; lia
 have hlong : ¬ (!its.toArray.isEmpty && Builtin.List.listTooLong (its.toArray.size + its2.toArray.size)) = true := by
  rw [Zg2 hsz, Bool.and_false]
  exact Bool.false_ne_true
 refine call_meets F.slot_list_extend ⟨_, e, rfl⟩ F.entry_list_extend (F.args_list_extend_2 _ _)
  (AutoSeq1.list_extend_list_list_0 l its.toArray n b its2.toArray n2 hlong (by rw [List.size_toArray]; lia) (by lia)) ⟨e, e2, ?_⟩
 refine ⟨.non, _, I.lset (its' := its ++ its2) hH e (by simp) (r.append r2) ?_, rfl, q⟩
 rw [List.length_append]
 lia
noncomputable def rCat : R2 := fun x y H Q => ∃ l b xs zs, x = .ref l /\ y = .ref b /\ H l = some (.lst xs) /\ H b = some (.lst zs) /\ xs.length + zs.length <= sizeLine /\ ∀ p, H p = none -> Q (.ref p) (upd H p (.lst (xs ++ zs)))
theorem ZcB : OpR X (binaryOp .Add) rCat := by
 intro pins s σ H x y v u Q I rx ry h
 obtain ⟨l, b, xs, zs, rfl, rfl, hH, hB, hz, q⟩ := h
 cases rx
 cases ry
 obtain ⟨z, its, n, r, hl, e⟩ := I.lstM hH
 obtain ⟨z2, its2, n2, r2, hl2, e2⟩ := I.lstM hB
 refine PySem.P.add_list e e2 ?_ (by rw [List.size_toArray, List.size_toArray]; lia)
 have ea : its.toArray ++ its2.toArray = (its ++ its2).toArray := by simp
 rw [ea]
 exact ⟨.ref _, _, I.lnew (t' := s.toks) (r.append r2) (by rw [List.length_append]; lia), rfl, q _ I.fresh⟩
noncomputable def rRep : R2 := fun x y H Q => ∃ l k xs, x = .ref l /\ y = .int k /\ H l = some (.lst xs) /\ -(2 ^ 63) <= k /\ k < 2 ^ 63 /\ xs.length * k.toNat <= sizeLine /\
 ∀ p, H p = none -> Q (.ref p) (upd H p (.lst (List.replicate k.toNat xs).flatten))
theorem Zmt {α : Type} (xs : List α) (k : Nat) : (List.replicate k xs).flatten.length = k * xs.length := by
 induction k with
 | zero => simp
 | succ k ih => rw [List.replicate_succ, List.flatten_cons, List.length_append, ih, Nat.succ_mul, Nat.add_comm]
theorem ZiL : OpR X (binaryOp .Mult) rRep := by
 intro pins s σ H x y v u Q I rx ry h
 obtain ⟨l, k, xs, rfl, rfl, hH, h1, h2, hz, q⟩ := h
 cases rx
 obtain ⟨t, rfl⟩ := ry
 obtain ⟨z, its, n, r, hl, e⟩ := I.lstM hH
 have hlen : its.toArray.size * k.toNat <= sizeLine := by rw [List.size_toArray, <- hl]; exact hz
 have hcap : ¬ its.toArray.size * k.toNat > (2 ^ 63 - 1) / 8 := by
  have : (sizeLine : Nat) <= (2 ^ 63 - 1) / 8 := by decide
  lia
 have hfit : ¬ (!Builtin.List.listFitsIndex k) = true := by
  rw [fitsIndex_both h1 h2]
  exact Bool.false_ne_true
 have hlong : ¬ Builtin.List.listTooLong (its.toArray.size * k.toNat) = true := by
  rw [Zg2 hlen]
  exact Bool.false_ne_true
 have hnew : List.foldl (fun x1 x2 => x1 ++ x2) #[] (List.replicate (if its.toArray.isEmpty = true then 0 else k.toNat) its.toArray) = (List.replicate k.toNat its).flatten.toArray := by
  have f0 : ∀ m : Nat, List.foldl (fun x1 x2 => x1 ++ x2) #[] (List.replicate m its.toArray) = (List.replicate m its).flatten.toArray := fun m => by
   have := ZfD its m []
   rw [List.nil_append] at this
   exact this
  rw [f0]
  cases its with
  | nil => simp
  | cons a r' => rw [if_neg (by simp)]
 refine wpAny_binaryOp_repeat_ref (T := "list") (U := "int") (by decide) ⟨_, e, rfl⟩ (fun s' => typeIs_int s' k t) noFill_list_mul F.fills_int_mul F.slot_int_rmul repeat_list F.slot_int_index.lookup
  (call_meets F.slot_int_rmul (typeIs_int s k t) F.entry_int_rmul (F.args_int_rmul_2 _ _) (int___rmul___int_list k t l its.toArray n)
   ⟨e, rfl, ⟨_, e, rfl⟩, call_meets F.slot_list_mul ⟨_, e, rfl⟩ F.entry_list_mul (F.args_list_mul_2 _ _) (AutoListH.list___mul___list_int_3 l its.toArray n k t hfit hcap hlong) ⟨e, ?_⟩⟩)
 rw [hnew]
 exact ⟨.ref _, _, I.lnew (t' := s.toks) (r.rep k.toNat) (by rw [Zmt, Nat.mul_comm]; exact hz), rfl, q _ I.fresh⟩
end
section
variable {prog : Program} {w : World} {A : Around} {E : Value -> Shared -> Prop} {s : Shared}
set_option maxRecDepth 100000 in
end
section
variable {X : Cx}
end
end L2
namespace L2
open PySem PySem.Spec PyProof.Rows
section
variable {κ : Type} [DecidableEq κ]
noncomputable def valV (kvs : List (κ × V)) (k : κ) : Option V := (kvs.find? fun kv => decide (kv.1 = k)).map (·.2)
noncomputable def putK (kvs : List (κ × V)) (k : κ) (v : V) : List (κ × V) :=
 if (kvs.any fun kv => decide (kv.1 = k)) = true then kvs.map (fun kv => if kv.1 = k then (kv.1, v) else kv) else kvs ++ [(k, v)]
theorem ZeR {p : κ × V} {r : List (κ × V)} {k : κ} (e : p.1 = k) : valV (p :: r) k = some p.2 := by simp [valV, List.find?_cons, e]
theorem ZeS {p : κ × V} {r : List (κ × V)} {k : κ} (e : ¬ p.1 = k) : valV (p :: r) k = valV r k := by simp [valV, List.find?_cons, e]
theorem ZeT (k : κ) : ∀ kvs : List (κ × V), (kvs.any fun kv => decide (kv.1 = k)) = (valV kvs k).isSome
  | [] => rfl
  | p :: r => by
    rw [List.any_cons]
    by_cases e : p.1 = k
    · simp only [ZeR e, decide_eq_true e, Bool.true_or, Option.isSome_some]
    · rw [ZeS e, decide_eq_false e, Bool.false_or]; exact ZeT k r
theorem Zgg (kvs : List (κ × V)) (k : κ) (v : V) : (putK kvs k v).length <= kvs.length + 1 := by
 unfold putK
 split
 ·rw [List.length_map]; lia
 ·rw [List.length_append, List.length_cons, List.length_nil]; lia
theorem Zkl {kvs : List (κ × V)} {k : κ} (v : V) (h : valV kvs k = none) : putK kvs k v = kvs ++ [(k, v)] := by
 unfold putK
 rw [ZeT, h]
 exact if_neg (by decide)
theorem RelO.getD {o : Option V} {u : Option Value} {d : V} {d' : Value} (r : RelO o u) (rd : RelV d d') : RelV (o.getD d) (u.getD d') := by
  cases o with
  | none => cases u with
    | none => exact rd
    | some _ => exact (show False from r).elim
  | some _ => cases u with
    | none => exact (show False from r).elim
    | some _ => exact r
theorem KV.val {kvs : List (κ × V)} {vs : List (κ × Value)} (r : KV kvs vs) (k : κ) : RelO (valV kvs k) (valueAt vs k) := by
  unfold KV at r
  induction r with
  | nil => exact True.intro
  | @cons p q ps qs h t ih =>
    obtain ⟨h1, h2⟩ := h
    by_cases e : p.1 = k
    · have e' : q.1 = k := h1.symm.trans e
      have b : valueAt (q :: qs) k = some q.2 := by simp [valueAt, List.find?_cons, e']
      rw [ZeR e, b]; exact h2
    · have e' : ¬ q.1 = k := fun z => e (h1.trans z)
      have b : valueAt (q :: qs) k = valueAt qs k := by simp [valueAt, List.find?_cons, e']
      rw [ZeS e, b]; exact ih
theorem KV.any {kvs : List (κ × V)} {vs : List (κ × Value)} (r : KV kvs vs) (k : κ) : (kvs.any fun kv => decide (kv.1 = k)) = vs.any fun kv => decide (kv.1 = k) := by
 unfold KV at r
 induction r with
 | nil => rfl
 | cons h t ih => rw [List.any_cons, List.any_cons, ih, h.1]
theorem KV.repl {kvs : List (κ × V)} {vs : List (κ × Value)} (r : KV kvs vs) (k : κ) {y : V} {u : Value} (ry : RelV y u) :
    KV (kvs.map fun kv => if kv.1 = k then (kv.1, y) else kv) (vs.map fun kv => if kv.1 = k then (kv.1, u) else kv) := by
  unfold KV at r ⊢
  induction r with
  | nil => exact .nil
  | @cons p q ps qs h t ih =>
    rw [List.map_cons, List.map_cons]
    refine .cons ?_ ih
    obtain ⟨h1, h2⟩ := h
    by_cases e : p.1 = k
    · rw [if_pos e, if_pos (h1.symm.trans e)]; exact ⟨h1, ry⟩
    · rw [if_neg e, if_neg (fun z => e (h1.trans z))]; exact ⟨h1, h2⟩
theorem KV.put {kvs : List (κ × V)} {vs : List (κ × Value)} (r : KV kvs vs) (k : κ) {y : V} {u : Value} (ry : RelV y u) : KV (putK kvs k y) (stored vs k u) := by
 unfold putK stored
 rw [r.any k]
 by_cases e : (vs.any fun kv => decide (kv.1 = k)) = true
 ·rw [if_pos e, if_pos e]; exact r.repl k ry
 ·rw [if_neg e, if_neg e]; exact Paired.snoc r ⟨rfl, ry⟩
end
theorem Zgj {P : Program} {w : World} {k : Key} {u : Value} (r : RelV (kV k) u) : (Zbo P w).is k u = true := by
 cases k with
 | inl i => obtain ⟨t, e⟩ := (show ∃ t, u = Value.int i t from r); subst e; exact Zgd P w i t
 | inr x => obtain ⟨t, e⟩ := (show ∃ t, u = Value.str x t from r); subst e; exact ZcW P w x t
theorem ZfC {P : Program} {w : World} : ∀ {ks : List Key} {us : List Value}, Vals (ks.map kV) us -> ItemsAre (Zbo P w) ks us
  | [], _, r => by rw [List.map_nil] at r; cases r; exact .nil
  | k :: ks, _, r => by
    rw [List.map_cons] at r
    cases r with
    | cons h t => exact .cons (Zgj h) (ZfC t)
noncomputable abbrev KT (H : Hp) : List (List Key × V) -> List (List Key × Addr × Value) -> Prop := Paired fun p q => p.1 = q.1 /\ H q.2.1 = some (.tup (p.1.map kV)) /\ RelV p.2 q.2.2
theorem KT.val {H : Hp} {kvs : List (List Key × V)} {xs : List (List Key × Addr × Value)} (r : KT H kvs xs) (k : List Key) : RelO (valV kvs k) ((atKey xs k).map (·.2)) := by
  induction r with
  | nil => exact True.intro
  | @cons p q ps qs h t ih =>
    obtain ⟨h1, _, h2⟩ := h
    by_cases e : p.1 = k
    · have e' : q.1 = k := h1.symm.trans e
      have b : atKey (q :: qs) k = some q.2 := by simp [atKey, List.find?_cons, e']
      rw [ZeR e, b]; exact h2
    · have e' : ¬ q.1 = k := fun z => e (h1.trans z)
      have b : atKey (q :: qs) k = atKey qs k := by simp [atKey, List.find?_cons, e']
      rw [ZeS e, b]; exact ih
section
variable {P : Program} {w : World} {H : Hp} {h : Heap} {a : Addr}
theorem rd_of {u : HO} (ok : HOk P w H h) (e : Rd H a u) : ObjOk P w H h a u := e.ok ok
theorem Zjl {kvs : List (Key × V)} (ok : HOk P w H h) (e : Rd H a (.dK kvs)) : kvs.length <= sizeLine /\ (a == sysModules) = false /\ ∃ vs, KV kvs vs /\ h.DictOf (Zbo P w) a vs :=
 show ObjOk P w H h a (.dK kvs) from rd_of ok e
theorem dk_of {kvs : List (Key × V)} (ok : HOk P w H h) (e : H a = some (.dK kvs)) : kvs.length <= sizeLine /\ (a == sysModules) = false /\ ∃ vs, KV kvs vs /\ h.DictOf (Zbo P w) a vs := Zjl ok (.inl e)
theorem Zi3 {ks : List Key} (ok : HOk P w H h) (e : H a = some (.tup (ks.map kV))) : (tupleKind (Zbo P w)).is h ks a := by
 obtain ⟨_, its, r, o, h1, h2, n, h3⟩ := (show ObjOk P w H h a (.tup (ks.map kV)) from ok a _ e)
 exact ⟨o, its.toArray, n, h1, h2, h3, by simpa using ZfC r⟩
theorem ZkL {kvs : List (List Key × V)} (ok : HOk P w H h) (e : Rd H a (.dT kvs)) : kvs.length <= sizeLine /\ (a == sysModules) = false /\
    ∃ xs, KT H kvs xs /\ h.DictOfH (tupleKind (Zbo P w)) a xs := by
  obtain ⟨z, y, xs, r, o, es, ep, h1, h2, h3, h4, h5⟩ := (show ObjOk P w H h a (.dT kvs) from rd_of ok e)
  refine ⟨z, y, xs, r, o, es, ep, h1, h2, h3, h4, fun x hx => ?_, h5⟩
  have all : ∀ {l : List (List Key × V)} {m : List (List Key × Addr × Value)}, KT H l m -> ∀ x ∈ m, (tupleKind (Zbo P w)).is h x.1 x.2.1 := by
    intro l m q
    induction q with
    | nil => intro x hx; exact nomatch hx
    | @cons p q ps qs hq t ih =>
      intro x hx
      rcases List.mem_cons.mp hx with e | hx
      · subst e
        exact Zi3 ok (by rw [<- hq.1]; exact hq.2.1)
      · exact ih x hx
  exact all r x hx
end
noncomputable def DGet (H : Hp) (a : Addr) (y : V) (r : Option V) : Prop :=
 (∃ kvs k, Rd H a (.dK kvs) /\ y = kV k /\ r = valV kvs k) \/ ∃ kvs k b, Rd H a (.dT kvs) /\ y = .ref b /\ H b = some (.tup (k.map kV)) /\ r = valV kvs k
theorem DGet.k {H : Hp} {a : Addr} {kvs : List (Key × V)} {k : Key} (e : H a = some (.dK kvs)) : DGet H a (kV k) (valV kvs k) := .inl ⟨kvs, k, .inl e, rfl, rfl⟩
section
variable {X : Cx} {pins : List (Addr × Obj)} {σ : St} {H : Hp} {s : Shared} {a : Addr} {y v : V} {u r : Value} {o : Option V} {A : Around} {E : Value -> Shared -> Prop}
theorem Inv.big (I : Inv X pins σ H s) : sysModules < s.heap.objs.size := by
 have h : mainGlobals < s.heap.objs.size := (I.mod.glob.keeps I.bk).lt
 exact Nat.lt_trans (by decide) h
theorem Zjo {Q : Value -> Shared -> Prop} (hu : A.units + 1 < cLine) (I : Inv X pins σ H s) (g : DGet H a y (some v)) (ry : RelV y u) (h : ∀ w' s', Inv X pins σ H s' -> RelV v w' -> Q w' s') :
  wpAny (model X.prog X.w) A (getItem (.ref a) u) Q E s := by
 rcases g with ⟨kvs, k, e, ey, l⟩ | ⟨kvs, k, b, e, ey, eb, l⟩
 ·subst ey
  obtain ⟨z, hd, vs, rel, dd⟩ := Zjl I.hok e
  obtain ⟨w', hw, rw'⟩ := RelO.some_of (v := v) (o := valueAt vs k) (by rw [l]; exact rel.val k)
  exact wpAny_getItem_of (Zgj ry) dd.mapOf hw (h w' _ (I.tok _) rw')
 ·subst ey
  cases (show u = Value.ref b from ry)
  obtain ⟨z, hd, xs, rel, dd⟩ := ZkL I.hok e
  obtain ⟨w', hw, rw'⟩ := RelO.some_of (v := v) (o := (atKey xs k).map (·.2)) (by rw [l]; exact rel.val k)
  obtain ⟨p, hp, hp2⟩ := Option.map_eq_some_iff.mp hw
  refine wpAny_getItem_heap (tupleKind_room_in1 hu) (Zi3 I.hok eb) dd hp ?_
  rw [hp2]
  exact h w' _ (I.tok _) rw'
theorem ZmM {h' : Heap} {t' : Nat} {ob : HO} (I : Inv X pins σ H s) (mu : Mut (H a)) (hs : Heap.SameBut a s.heap h') (he : ∃ q, h'.get? a = some q) (new : ObjOk X.prog X.w (upd H a ob) h' a ob) :
  Inv X pins σ (upd H a ob) { s with heap := h', toks := t' } :=
 I.write (x := a) (e := a) mu (.inl rfl) (fun b q hb z => (hs.2 b hb).trans z) he new
theorem dk_new {P : Program} {w : World} {H' : Hp} {h' : Heap} {kvs : List (Key × V)} {vs : List (Key × Value)} (z : kvs.length <= sizeLine) (hd : (a == sysModules) = false) (rel : KV kvs vs) (dd : h'.DictOf (Zbo P w) a vs) :
  ObjOk P w H' h' a (.dK kvs) := ⟨z, hd, vs, rel, dd⟩
end
section
variable {X : Cx} {pins : List (Addr × Obj)} {σ : St} {H : Hp} {s : Shared} {a : Addr} {kvs : List (Key × V)} {k : Key} {u : Value} {A : Around} {E : Value -> Shared -> Prop}
end
noncomputable def NoSl (i : Expr) : Prop := ∀ ov iv, subscripted i false ov iv = operate [ov, iv] (getItem ov iv)
theorem Zh7 {prog : Program} {w : World} {A : Around} {E : Value -> Shared -> Prop} {s : Shared} {env : Env} {value slice : Expr} {pos : Pos} {T id : String} {Q : Value -> Shared -> Prop}
  (hl : typeLookup (.type T) "__getitem__" = pure (some (.builtin id))) (hs : NoSl slice)
  (h : wpAny (model prog w) A (eval value env) (fun o s₁ => wpAny (model prog w) A (eval slice env) (fun i s₂ => s₂.TypeIs o T /\ wpAny (model prog w) A (getItem o i) Q E s₂) E s₁) E s) :
  wpAny (model prog w) A (eval (.Subscript value slice pos) env) Q E s := by
 refine Subscript_ (wpAny_mono h (fun o s₁ h₁ => wpAny_mono h₁ (fun i s₂ h₂ => ?_) fun _ _ x => x) fun _ _ x => x)
 obtain ⟨hT, h₂⟩ := h₂
 unfold subscriptTail
 refine wpAny_bind ?_
 rw [getitemInPython_of_ne hT.not_modules]
 refine wpAny_bind (wpAny_specialOf hT hl ?_)
 have fin : wpAny (model prog w) A (subscripted slice false o i) (fun r s₃ => wpAny (model prog w) A (letTemporaryGo value o r >>= fun _ => pure r) Q E s₃) E s₂ := by
  rw [hs o i]
  exact wpAny_operating (wpAny_mono h₂ (fun r s₃ h₃ => wpAny_bind (wpAny_letTemporaryGo (wpAny_pure h₃))) fun _ _ x => x)
 first
  | exact wpAny_pure (wpAny_bind fin)
  | exact wpAny_bind (wpAny_pure (wpAny_bind fin))
  | exact wpAny_bind fin
theorem Zgo {X : Cx} {pins : List (Addr × Obj)} {σ : St} {H : Hp} {s : Shared} {a : Addr} {y : V} {o : Option V} (I : Inv X pins σ H s) (g : DGet H a y o) : s.TypeIs (.ref a) "dict" := by
 rcases g with ⟨kvs, k, e, _, _⟩ | ⟨kvs, k, b, e, _, _, _⟩
 ·obtain ⟨_, _, vs, _, dd⟩ := Zjl I.hok e
  exact dd.typeIs
 ·obtain ⟨_, _, xs, _, dd⟩ := ZkL I.hok e
  exact dd.typeIs
noncomputable def tDGet (td ty : TE) : TE := fun σ H Q => td σ H fun x H1 => ty σ H1 fun y H2 => ∃ a v, x = .ref a /\ DGet H2 a y (some v) /\ Q v H2
section
variable {X : Cx} {o i e value : Expr} {pos pos' tpos : Pos} {td ty tv : TE}
theorem ZiJ (hu : X.A.units + 1 < cLine) (ho : PE X o td) (hi : PE X i ty) (hs : NoSl i) : PE X (.Subscript o i pos) (tDGet td ty) := by
 intro pins s σ H Q I h
 refine Zh7 PySem.F.slot_dict_getitem.lookup hs (thn (ho pins s σ H _ I h) fun u s1 ⟨x, H1, I1, rx, q1⟩ => thn (hi pins s1 σ H1 _ I1 q1) fun iv s2 ⟨y, H2, I2, ry, a, v, ex, g, q2⟩ => ?_)
 subst ex
 obtain rfl : u = Value.ref a := rx
 exact ⟨Zgo I2 g, Zjo hu I2 g ry fun w' s3 I3 rw' => ⟨v, H2, I3, rw', q2⟩⟩
end
theorem ZkM {P : Program} {w : World} {H : Hp} (h : Heap) (hb : sysModules < h.objs.size) : ObjOk P w H (h.push { cls := .type "dict", data := .dict #[] }) h.objs.size (.dK []) :=
 ⟨Nat.zero_le _, beq_eq_false_iff_ne.mpr (Ne.symm (Nat.ne_of_lt hb)), [], .nil, Heap.DictOf.new h⟩
section
variable {X : Cx} {pos : Pos}
end
noncomputable def ZgF : List (TE × TE) -> St -> Hp -> (List (V × V) -> Hp -> Prop) -> Prop
 | [], _, H, Q => Q [] H
 | (tk, tv) :: r, σ, H, Q => tk σ H fun x H1 => tv σ H1 fun y H2 => ZgF r σ H2 fun ps H3 => Q ((x, y) :: ps) H3
noncomputable abbrev VV : List (V × V) -> List (Value × Value) -> Prop := Paired fun p q => RelV p.1 q.1 /\ RelV p.2 q.2
noncomputable def PPs (X : Cx) (pos : Pos) (keys : List (Option Expr)) (values : List Expr) (trs : List (TE × TE)) : Prop :=
 ∀ (pins : List (Addr × Obj)) (s : Shared) (σ : St) (H : Hp) (Q : List (V × V) -> Hp -> Prop), Inv X pins σ H s -> ZgF trs σ H Q ->
  wpAny (model X.prog X.w) X.A (evalPairs (pairTrees keys values X.env pos)) (fun vs s' => ∃ ps H', Inv X pins σ H' s' /\ VV ps vs /\ Q ps H') X.xe s
theorem ZiE {X : Cx} {pos : Pos} : PPs X pos [] [] [] := fun pins s σ H Q I h => pairTrees_nil_walk ⟨[], H, I, .nil, h⟩
theorem ZdU {X : Cx} {pos : Pos} {k v : Expr} {ks : List (Option Expr)} {vs : List Expr} {tk tv : TE} {trs : List (TE × TE)} (hk : PE X k tk) (hv : PE X v tv) (hr : PPs X pos ks vs trs) :
  PPs X pos (some k :: ks) (v :: vs) ((tk, tv) :: trs) := fun pins s σ H Q I h =>
 pairTrees_cons_walk (thn (hk pins s σ H _ I h) fun u s1 ⟨x, H1, I1, rx, q1⟩ => thn (hv pins s1 σ H1 _ I1 q1) fun w2 s2 ⟨y, H2, I2, ry, q2⟩ =>
  thn (hr pins s2 σ H2 _ I2 q2) fun ws s3 ⟨ps, H3, I3, rel, q3⟩ => ⟨(x, y) :: ps, H3, I3, .cons ⟨rx, ry⟩ rel, q3⟩)
noncomputable def Zdf (kvs more : List (Key × V)) : List (Key × V) := more.foldl (fun acc kv => putK acc kv.1 kv.2) kvs
theorem KV.merge : ∀ {more : List (Key × V)} {rs : List (Key × Value)} {kvs : List (Key × V)} {vs : List (Key × Value)}, KV more rs -> KV kvs vs -> KV (Zdf kvs more) (merged vs rs) := by
  intro more rs kvs vs r
  unfold KV at r
  induction r generalizing kvs vs with
  | nil => intro q; exact q
  | @cons p q ps qs h t ih =>
    intro r0
    have e : KV (putK kvs p.1 p.2) (stored vs q.1 q.2) := by
      have := r0.put p.1 h.2
      rw [<- h.1]; exact this
    exact ih e
theorem Zdg : ∀ (more kvs : List (Key × V)), (Zdf kvs more).length <= kvs.length + more.length
  | [], kvs => by show kvs.length <= kvs.length + 0; lia
  | p :: r, kvs => by
    have h1 := Zdg r (putK kvs p.1 p.2)
    have h2 := Zgg kvs p.1 p.2
    show (Zdf (putK kvs p.1 p.2) r).length <= _
    rw [List.length_cons]; lia
theorem ZeM {P : Program} {w : World} : ∀ {kvs : List (Key × V)} {ws : List (Value × Value)}, VV (kvs.map fun kv => (kV kv.1, kv.2)) ws -> ∃ rs, Carries (Zbo P w) ws rs /\ KV kvs rs
  | [], _, r => by rw [List.map_nil] at r; cases r; exact ⟨[], True.intro, .nil⟩
  | p :: kvs, _, r => by
    rw [List.map_cons] at r
    cases r with
    | @cons a b as bs h t =>
      obtain ⟨rs, c, q⟩ := ZeM (P := P) (w := w) t
      obtain ⟨b1, b2⟩ := b
      exact ⟨(p.1, b2) :: rs, ⟨Zgj h.1, rfl, c⟩, .cons ⟨rfl, h.2⟩ q⟩
noncomputable def Zlz (trs : List (TE × TE)) : TE := fun σ H Q => ∀ p, H p = none -> ZgF trs σ (upd H p (.dK [])) fun ps H2 => H2 p = some (.dK []) /\ ∃ kvs : List (Key × V), ps = kvs.map (fun kv => (kV kv.1, kv.2)) /\ kvs.length <= 15 /\ Q (.ref p) (upd H2 p (.dK (Zdf [] kvs)))
theorem ZiI {X : Cx} {pos : Pos} {keys : List (Option Expr)} {values : List Expr} {trs : List (TE × TE)} (h : PPs X pos keys values trs) (hall : keys.all (·.isSome) = true) (hl : keys.length = values.length) (h0 : keys ≠ [])
  (h15 : keys.length <= 15) : PE X (.Dict keys values pos) (Zlz trs) := by
 intro pins s σ H Q I q
 have hn := I.hok.fresh (Nat.le_refl s.heap.objs.size)
 have I1 := I.laid (a := s.heap.objs.size) (o := .dK []) (h' := s.heap.push { cls := .type "dict", data := .dict #[] }) (t' := s.toks) (fun _ _ q => Heap.get?_push_of_some _ q) (Nat.le_refl _) (ZkM s.heap I.big)
 refine wpAny_Dict_walk (knd := Zbo X.prog X.w) hall hl h0 h15 (thn (h pins _ σ _ _ I1 (q _ hn)) fun ws s2 ⟨ps, H2, I2, rel, e, kvs, ep, lk, q2⟩ => ?_)
 subst ep
 obtain ⟨rs, c, rk⟩ := ZeM (P := X.prog) (w := X.w) rel
 obtain ⟨z, hd, vs0, r0, dd⟩ := dk_of I2.hok e
 cases r0
 refine ⟨rs, c, dd, fun h' dd' hs => ⟨.ref s.heap.objs.size, _, ?_, rfl, q2⟩⟩
 have hz : (Zdf [] kvs).length <= sizeLine := by
  have h1 := Zdg kvs []
  rw [List.length_nil] at h1
  rw [sizeLine_eq]; lia
 have he : ∃ q, h'.get? s.heap.objs.size = some q := let ⟨q, _, _, hq, _⟩ := dd'; ⟨q, hq⟩
 exact ZmM I2 (by rw [e]; exact True.intro) hs he (dk_new hz hd (rk.merge .nil) dd')
structure M2 (X : Cx) (o : Expr) (m : Str) (apos : Pos) (e f : Expr) (cpos : Pos) : Prop where
 base : attributeBase o m X.env (eval o X.env) = eval o X.env
 few : ((backTo cpos (starEach [e, f] X.env)).all (fun x => !x.1) && (backToKw cpos (keywordEach [] X.env)).all (fun x => x.1.isSome)
  && decide (([e, f] : List Expr).length + ([] : List Keyword).length + (if ([] : List Keyword).isEmpty then 0 else 1) < 30)) = true
 line : (apos.endLine == cpos.line) = true
 trees : backTo cpos (starEach [e, f] X.env) = [(false, eval e X.env), (false, eval f X.env)]
noncomputable def IsD (H : Hp) (a : Addr) : Prop := (∃ kvs, Rd H a (.dK kvs)) \/ ∃ kvs, Rd H a (.dT kvs)
theorem isD_at {X : Cx} {pins : List (Addr × Obj)} {σ : St} {H : Hp} {s : Shared} {a : Addr} (I : Inv X pins σ H s) (d : IsD H a) :
  s.TypeIs (.ref a) "dict" /\ (∀ b, Value.ref a = .ref b -> ∃ ob, s.heap.get? b = some ob /\ ob.dict = none) /\ (a == sysModules) = false := by
 rcases d with ⟨kvs, e⟩ | ⟨kvs, e⟩
 ·obtain ⟨_, hd, vs, _, dd⟩ := Zjl I.hok e
  refine ⟨dd.typeIs, fun b q => ?_, hd⟩
  cases q
  obtain ⟨ob, _, _, h1, h2, _⟩ := dd
  exact ⟨ob, h1, h2.2.1⟩
 ·obtain ⟨_, hd, xs, _, dd⟩ := ZkL I.hok e
  refine ⟨dd.typeIs, fun b q => ?_, hd⟩
  cases q
  obtain ⟨ob, _, _, h1, h2, _⟩ := dd
  exact ⟨ob, h1, h2.2.1⟩
section
variable {X : Cx} {pins : List (Addr × Obj)} {σ : St} {H : Hp} {s : Shared} {a : Addr} {y d : V} {u r : Value} {o : Option V} {A : Around} {E : Value -> Shared -> Prop}
theorem d_get2 {Q : Value -> Shared -> Prop} (hu : A.units + 1 < cLine) (I : Inv X pins σ H s) (g : DGet H a y o) (ry : RelV y u) (rd : RelV d r) (h : ∀ w' s', Inv X pins σ H s' -> RelV (o.getD d) w' -> Q w' s') :
  wpAny (model X.prog X.w) A (call (.builtin "dict.get") [.ref a, u, r]) Q E s := by
 rcases g with ⟨kvs, k, e, ey, l⟩ | ⟨kvs, k, b, e, ey, eb, l⟩
 ·subst ey
  obtain ⟨z, hd, vs, rel, dd⟩ := Zjl I.hok e
  refine call_meetsIn PySem.F.slot_dict_get dd.typeIs PySem.F.entry_dict_get (PySem.F.args_dict_get_3 _ _ _) (meets_dict_get_default (Zbo X.prog X.w) a (Zgj ry) hd r) ⟨_, dd.mapOf, h _ _ (I.tok _) ?_⟩
  rw [l]
  exact (rel.val k).getD rd
 ·subst ey
  cases (show u = Value.ref b from ry)
  obtain ⟨z, hd, xs, rel, dd⟩ := ZkL I.hok e
  refine call_meetsIn PySem.F.slot_dict_get dd.typeIs PySem.F.entry_dict_get (PySem.F.args_dict_get_3 _ _ _) (meetsH_dict_get_default (tupleKind (Zbo X.prog X.w)) a b hd r) ⟨tupleKind_room_in1 hu, k, xs, Zi3 I.hok eb, dd, h _ _ (I.tok _) ?_⟩
  rw [l]
  exact (rel.val k).getD rd
end
noncomputable def ZkZ (td ty tx : TE) : TE := fun σ H Q => td σ H fun x H1 => ∃ a, x = .ref a /\ IsD H1 a /\ ty σ H1 fun y H2 => tx σ H2 fun z H3 => ∃ o, DGet H3 a y o /\ Q (o.getD z) H3
section
variable {X : Cx} {o e f : Expr} {apos cpos : Pos} {td ty tx : TE}
theorem Zkp (hu : X.A.units + 1 < cLine) (ho : PE X o td) (he : PE X e ty) (hf : PE X f tx) (m : M2 X o "get" apos e f cpos) : PE X (.Call (.Attribute o "get" apos) [e, f] [] cpos) (ZkZ td ty tx) := by
 intro pins s σ H Q I h
 refine wpAny_Call_method m.base m.few m.line PySem.F.plainAttrs_dict PySem.F.slot_dict_get PySem.F.type_dict_get (thn (ho pins s σ H _ I h) fun u s1 ⟨x, H1, I1, rx, a, ex, d, q1⟩ => ?_)
 subst ex
 obtain rfl : u = Value.ref a := rx
 obtain ⟨t1, t2, _⟩ := isD_at I1 d
 refine ⟨t1, t2, ?_⟩
 rw [m.trees]
 refine Calls.callWith_builtin rfl (Calls.evalArgs_plain (Calls.spliced_cons (thn (he pins s1 σ H1 _ I1 q1) fun iv s2 ⟨y, H2, I2, ry, q2⟩ =>
  Calls.spliced_cons (thn (hf pins s2 σ H2 _ I2 q2) fun fv s3 ⟨z, H3, I3, rz, ov, g, q3⟩ => Calls.spliced_nil ?_))))
 exact d_get2 hu I3 g ry rz fun w' s4 I4 rw' => ⟨_, H3, I4, rw', q3⟩
end
section
variable {X : Cx} {pins : List (Addr × Obj)} {σ : St} {H : Hp} {s : Shared} {a : Addr} {kvs : List (Key × V)} {A : Around} {E : Value -> Shared -> Prop}
end
section
variable {X : Cx} {pins : List (Addr × Obj)} {σ : St} {H : Hp} {s : Shared} {a : Addr} {y : V} {u : Value} {A : Around} {E : Value -> Shared -> Prop}
end
end L2
namespace Att
open PySem PySem.W PySem.Calls PyProof.Rows
theorem Zek {P : Params} {h : Heap} : ∀ (ns : List Int) (vs : List Value), WellAll P h vs (ns.map WData.int) -> IntsAre vs ns := by
  intro ns
  induction ns with
  | nil =>
    intro vs w
    rw [List.map_nil] at w
    cases w
    exact .nil
  | cons n ns ih =>
    intro vs w
    rw [List.map_cons] at w
    cases w with
    | cons a b =>
      cases a
      exact .cons _ _ (ih _ b)
theorem Zil {l : OpenLaw} {n : Nat} (hn : l.most = some n) {P : Params} {h : Heap} {args : List WData} {vals : List Value}
    (hpre : l.row.toRowW.claim.pre args = true) (hwl : WellAll P h vals args) :
    ∃ a vs ns, vals = [Value.ref a] /\ args = [WData.list (ns.map WData.int)] /\ h.get? a = some { cls := .type "list", data := .seq vs.toArray } /\ IntsAre vs ns /\ ns.length <= n := by
  have hsh : WShape.hasAll [] args [.list .int] = true := (pre_splitW hpre).1
  have hc : l.pre.holds [] { args := args } = true := (pre_splitW hpre).2
  obtain ⟨d, r, rfl, h1, h2⟩ := hasAllW_cons hsh
  obtain rfl := hasAllW_nil h2
  obtain ⟨xs, rfl, h3⟩ := hasW_list h1
  obtain ⟨ns, rfl⟩ := items_int h3
  have hlen : ns.length <= n := by
    unfold OpenLaw.pre at hc
    have h4 : (WTm.not (.lt (.lit (.int (n : Int))) (.len (.arg 0)))).holds [] { args := [.list (ns.map .int)] } = true := by
      have h4 := (holds_andW hc).1
      rw [hn] at h4
      exact h4
    have h5 := condW_of h4 (w_not (w_lt w_lit (w_len_list (w_arg rfl))))
    rw [List.length_map] at h5
    refine Nat.le_of_not_lt fun q => ?_
    have q' : (n : Int) < ((ns.length : Nat) : Int) := by lia
    first
      | (rw [decide_eq_true q'] at h5; exact absurd h5 (by decide))
      | (simp at h5; lia)
  cases hwl with
  | cons w1 w2 =>
    cases w2
    cases w1 with
    | list ho hall => exact ⟨_, _, ns, rfl, rfl, ho, Zek ns _ hall, hlen⟩
theorem ZiF (l : OpenLaw) (args : List WData) : l.row.toRowW.claim.post args (.bool true) args = true :=
 postW_of (r := l.row.toRowW) (X := (true == true))
  (show WShape.has [] (.bool true) .bool = true by first | rfl | decide | simp [WShape.has, WShape.arms, WShape.armsAll])
  (show (WTm.eq .res (.lit (.bool true))).value [] { args := args, res := some (.bool true), after := args } = some (.bool (true == true)) from w_eq_bool (w_res rfl) w_lit) rfl
theorem attach_call {l : OpenLaw} {n : Nat} {q : Program} {loose : List Str} {XP : (Str -> Option Value) -> Heap -> Prop} {YP : World -> Heap -> Prop} {d : DefRec}
  (hn : l.most = some n) (hdf : d.params.defaults = [])
  (call : ∀ (w : World) (s₀ s₁ : Shared) (mg mb : Str -> Option Value) (fa : Addr) (o : Obj) (pm cd doc : Value) (a : Addr) (vs : List Value) (ns : List Int),
   Ground q loose [] XP w s₀ mg mb s₁.heap -> YP w s₁.heap ->
   s₁.heap.get? fa = some o -> o.data = .func (docDef d.name d.params d.body d.scope pm cd doc) -> s₁.heap.CodeRec cd d.name -> mg d.name = some (.ref fa) ->
   s₁.heap.get? a = some { cls := .type "list", data := .seq vs.toArray } -> IntsAre vs ns -> ns.length <= n -> s₁.gens = #[] ->
   codeAny (model l.prog w) callerA (.call (.ref fa) ⟨[.ref a], []⟩) (fun r s' => r = .ok (.ret (.bool true)) /\ OldK s₁.heap s'.heap /\ s'.os = s₁.os /\ AllBare s'.gens) s₁) :
  WalkO q loose XP YP l.row.toRowW d [] (fun f vs => PySem.call f vs) := by
 intro w s₀ s₁ mg mb G Y fa o pm cd doc dV kV ho hd hcd hD hmg hg args vals as hpre hlay hrd hwl hlo
 obtain rfl : dV = .none := Dflts.none hD hdf
 obtain rfl : kV = .none := Dflts.noKw hD
 obtain ⟨a, vs, ns, rfl, rfl, hobj, hints, hlen⟩ := Zil hn hpre hwl
 refine enter_call (codeAny_mono (call w s₀ s₁ mg mb fa o pm cd doc a vs ns G Y ho (fd_plain hd) hcd hmg hobj hints hlen hg) fun r s' hq => ?_)
 obtain ⟨rfl, h2, h3, h4⟩ := hq
 exact ⟨.inl ⟨.bool true, .bool true, [], rfl, fun _ => rfl, .bool true, ZiF l _, fun _ => ⟨List.Pairwise.nil, fun _ hm => (nomatch hm)⟩⟩, h2, h3, h4⟩
section
variable {prog : Program} {w : World} {A : Around} {E : Value -> Shared -> Prop} {s : Shared} {K : Frag}
noncomputable def ledger (h : Heap) (L d : Addr) : List (Addr × Obj) := (List.range h.objs.size).filterMap fun a => if a = L \/ a = d then none else (h.get? a).map fun o => (a, o)
end
end Att
namespace L2
open PySem PySem.Spec PyProof.Rows
theorem Zfk : ∀ {vs : List Value} {ns : List Int}, IntsAre vs ns -> Vals (ns.map V.int) vs
 | _, _, .nil => .nil
 | _, _, .cons n t h => .cons ⟨t, rfl⟩ (Zfk h)
noncomputable def Only (H : Hp) : Prop := ∀ b, H b = none \/ ∃ o xs, H b = some (.frz o (.lst xs))
theorem ZkC {P : Program} {w : World} {K : PySem.W.Frag} {mg mb : Str -> Option Value} {CX : CXT} {k : Nat} {fa a : Addr} {fd : FuncData} {x : Str} {sp : Sp} {s₁ : Shared} {vs : List Value} {ns : List Int}
    (KX : K.In s₁.heap) (hns : s₁.heap.Ns mainGlobals mg) (hb : s₁.heap.Ns builtinsNs mb) (hbb : ∀ x : Str, x ≠ "__name__" -> mb x = bootBuiltins x) (hlim : s₁.heap.NoLimit) (hg : s₁.gens = #[])
    (ha : s₁.heap.get? a = some { cls := .type "list", data := .seq vs.toArray }) (hi : IntsAre vs ns) (hl : ns.length <= sizeLine) (hr : Room k callerA)
    (F : ∀ base : Heap, K.In base -> base.Ns mainGlobals mg -> FnOk P w K mg base CX k fa fd [x] sp) (hbind : ∀ (s : Shared) (u : Value), BindsTo s fd ⟨[u], []⟩ [(x, u)])
    (hsp : ∀ H : Hp, Only H -> SqL K H a (ns.map V.int) -> sp [.ref a] H (fun v _ => v = .bl true) fun _ _ _ => False)
    (hCX : ∀ H e s', CX [] H s₁ (fun _ _ _ => False) e s' -> False) :
    codeAny (model P w) callerA (.call (.ref fa) ⟨[.ref a], []⟩) (fun r s' => r = .ok (.ret (.bool true)) /\ OldK s₁.heap s'.heap /\ s'.os = s₁.os /\ AllBare s'.gens) s₁ := by
  have rv := Zfk hi
  have lenV := hi.length
  have core : ∀ H : Hp, Only H -> SqL K H a (ns.map V.int) -> HOk P w H s₁.heap -> (∀ b, H b ≠ none -> b = a) -> (H a ≠ none -> K.lookup a = none) ->
      codeAny (model P w) callerA (.call (.ref fa) ⟨[.ref a], []⟩) (fun r s' => r = .ok (.ret (.bool true)) /\ OldK s₁.heap s'.heap /\ s'.os = s₁.os /\ AllBare s'.gens) s₁ := by
    intro H hO hS hok hA hK
    have base_of : ∀ {b : Addr} {o : Obj}, s₁.heap.get? b = some o -> H b = none -> (hidT s₁.heap H).get? b = some o := fun e n => ZkG e n
    have noA : ∀ {b : Addr} {o : Obj} {es : Array DictEntry} {ep : Nat}, s₁.heap.get? b = some o -> o.data = .dict es ep -> H b = none := fun {b o es ep} e d => by
      cases q : H b with
      | none => rfl
      | some u =>
        have e' : b = a := hA b (by rw [q]; simp)
        subst e'
        rw [ha] at e; cases e
        have d' : Data.seq vs.toArray _ = Data.dict es ep := d
        cases d'
    have nsK : ∀ {b : Addr} {m : Str -> Option Value}, s₁.heap.Ns b m -> (hidT s₁.heap H).Ns b m := fun {b m} ⟨o, es, ep, e, d, r⟩ => ⟨o, es, ep, base_of e (noA e d), d, r⟩
    have hKb : K.In (hidT s₁.heap H) := fun b o e => base_of (KX b o e) (by
      cases q : H b with
      | none => rfl
      | some u =>
        have e' : b = a := hA b (by rw [q]; simp)
        subst e'
        rw [hK (by rw [q]; simp)] at e; cases e)
    have hM : Mod K mg (hidT s₁.heap H) := ⟨hKb, nsK hns, ⟨mb, nsK hb, hbb⟩, let ⟨mc, h1, h2⟩ := hlim; ⟨mc, nsK h1, h2⟩⟩
    have e0 : Env0 P w K mg (hidT s₁.heap H) callerA [] s₁ H := ⟨rfl, hM, fun b o e => Zmn e, Nat.le_of_eq (Zjg _ _), trivial, fun b hb => absurd (show b ∈ ([] : List Addr) from hb) (by simp), hok, .of_eq hg⟩
    refine codeAny_mono ((F _ hKb (nsK hns)).run callerA [] s₁ H ⟨[.ref a], []⟩ [.ref a] [.ref a] _ _ hr e0 (hbind s₁ (.ref a)) (.cons rfl .nil) (hsp H hO hS)) fun r s' h => ?_
    cases r with
    | error e => exact (hCX H e s' h).elim
    | ok fl =>
      cases fl with
      | next => exact False.elim h
      | brk => exact False.elim h
      | cont => exact False.elim h
      | ret u =>
        obtain ⟨v, H', os, bare, un, hok', r', q⟩ := h
        have q' : v = .bl true := q
        subst q'
        obtain rfl : u = Value.bool true := r'
        refine ⟨rfl, OldK.of_keep fun b o e => ?_, os, bare⟩
        cases q : H b with
        | none => exact un.keep b o e q (by intro z; exact absurd (show b ∈ ([] : List Addr) from z) (by simp)) (by simp)
        | some u =>
          rcases hO b with z | ⟨ob, xs, z⟩
          · rw [q] at z; cases z
          · have z2 := un.frzs b ob _ z
            obtain ⟨e1, _⟩ := hok b _ z
            obtain ⟨e2, _⟩ := hok' b _ z2
            rw [e] at e1; cases e1
            exact e2
  cases hk : K.lookup a with
  | some o =>
    have e := KX a o hk
    rw [ha] at e
    cases e
    refine core (fun _ => none) (fun _ => .inl rfl) (.inr ⟨_, vs.toArray, _, hk, rfl, rfl, rfl, by rw [List.size_toArray, lenV]; exact hl, by simpa using rv⟩) (fun b u z => by have z' : (none : Option HO) = some u := z; cases z') (fun b z => absurd rfl z) fun z => absurd rfl z
  | none =>
    refine core (fun b => if b = a then some (.frz { cls := .type "list", data := .seq vs.toArray } (.lst (ns.map V.int))) else none) (fun b => ?_) (.inl (.inr ⟨{ cls := .type "list", data := .seq vs.toArray }, if_pos rfl⟩)) (fun b u z => ?_) (fun b z => ?_) fun _ => hk
    · by_cases hb : b = a
      · exact .inr ⟨_, _, if_pos hb⟩
      · exact .inl (if_neg hb)
    · by_cases hb : b = a
      · have z' := (if_pos hb).symm.trans z
        cases z'
        subst hb
        exact ⟨ha, by rw [List.length_map]; exact hl, vs, _, rv, ha⟩
      · have z' := (if_neg hb).symm.trans z
        cases z'
    · by_cases hb : b = a
      · exact hb
      · exact absurd (if_neg hb) z
end L2
namespace L2
open PySem PySem.Spec PyProof.Rows
noncomputable abbrev KOf {K : PySem.W.Frag} {h : Heap} (_ : K.In h) : PySem.W.Frag := K
theorem ZhT {l : PySem.W.OpenLaw} {n k : Nat} {q : Program} {loose : List Str} {XP : (Str -> Option Value) -> Heap -> Prop} {YP : World -> Heap -> Prop} {d : DefRec} {K : Params -> PySem.W.Frag} {CX : World -> CXT} {sp : World -> Sp} {x : Str}
  (hn : l.most = some n) (hn2 : n <= sizeLine) (hdf : d.params.defaults = []) (hr : Room k callerA)
  (hY : ∀ (w : World) (h : Heap), YP w h -> (K w.params).In h)
  (F : ∀ (w : World) (mg : Str -> Option Value) (fa : Addr) (h : Heap), (K w.params).In h -> h.Ns mainGlobals mg -> mg d.name = some (.ref fa) ->
   ∃ fd : FuncData, (∀ (s : Shared) (u : Value), BindsTo s fd ⟨[u], []⟩ [(x, u)]) /\
    ∀ base : Heap, (K w.params).In base -> base.Ns mainGlobals mg -> FnOk l.prog w (K w.params) mg base (CX w) k fa fd [x] (sp w))
  (hsp : ∀ (w : World) (H : Hp) (a : Addr) (ns : List Int), ns.length <= n -> Only H -> SqL (K w.params) H a (ns.map V.int) -> sp w [.ref a] H (fun v _ => v = .bl true) fun _ _ _ => False)
  (hCX : ∀ (w : World) (H : Hp) (s : Shared) (e : Value) (s' : Shared), CX w [] H s (fun _ _ _ => False) e s' -> False) :
  PySem.W.WalkO q loose XP YP l.row.toRowW d [] (fun f vs => PySem.call f vs) := by
 refine Att.attach_call hn hdf fun w s₀ s₁ mg mb fa o pm cd doc a vs ns G Y ho hd hcd hmg hobj hints hlen hg => ?_
 have KX := hY w _ Y
 obtain ⟨fd, hb, hF⟩ := F w mg fa _ KX G.T.g hmg
 exact ZkC KX G.T.g G.T.b G.T.builtins G.T.nolimit hg hobj hints (Nat.le_trans hlen hn2) hr hF hb (fun H hO hS => hsp w H a ns hlen hO hS) fun H e s' => hCX w H s₁ e s'
end L2
/- THE LAST THEOREM (shape; LID, My.* are yours):
   My.Adr: a structure of the addresses that your layer names (classes, functions); My.Txt K t: a structure (Prop) of the equations over K;
   My.txt_mk : {K} {implicit addresses ..} (e1 : nsIn K mainGlobals "law" = some (some (.ref f))) (e2 : K.lookup f = some ⟨oc, od, .func (fnOf "law" "law" params body scope dV kV doc pm an cdv ct), sl⟩) (e3 : codeIn K cdv "law" = true) .. : ∃ t, My.Txt K t
set_option maxRecDepth 100000 in
set_option maxHeartbeats 0 in
theorem PySem.Challenge.cw_LID_holds : PySem.Challenge.rw_LID.Holds := by
 w_on; o_law; k_head; (case hw => w_witness2)
 k_fill
 refine L2.ZhT (l := PySem.Challenge.rw_LID) (n := 63) (k := 40) (x := "script") (CX := fun w => ..) (sp := fun _ => My.sp_law) rfl (by decide) rfl ⟨rfl, by decide, by decide⟩ (fun w h Y => PySem.W.kIn_of Y) ?F ?S ?C
 case F =>
  intro w mg fa h KX G hmg
  have T : ∃ t, My.Txt (L2.KOf KX) t := by
   dsimp only [L2.KOf]                          -- K must stand as «<heap const> w.params» for k_is
   refine' My.txt_mk ?e1 ?e2 ?e3 ..
   (case e1 => PySem.W.k_is)                    -- in the order: a name -> its address -> its object -> its parts
   (case e2 => PySem.W.k_is)
   ..
  obtain ⟨t, T⟩ := T
  have e0 := hmg.symm.trans (PySem.W.mg_of KX G T.law)
  cases e0                                       -- fa is the law's own address
  exact ⟨_, fun s u => .of_eq rfl, fun base kb nb => My.Zi2 T kb nb⟩     -- if «.of_eq rfl» comes too early: refine' ⟨_, ?b, fun base kb nb => My.Zi2 T kb nb⟩; exact fun s u => .of_eq rfl
 case S => exact fun w H a ns hl hO hS => ..
 case C => exact ..
(the tactic k_is has no namespace: write k_is) -/
namespace L2
open PySem PySem.Spec PyProof.Rows
noncomputable def ZaD (s : Stmt) : Arguments := match s with
 | .FunctionDef _ a _ _ _ _ _ _ _ _ => a
 | _ => { posonlyargs := [], args := [], vararg := none, kwonlyargs := [], kw_defaults := [], kwarg := none, defaults := [] }
noncomputable def ZaA (s : Stmt) : List Stmt := match s with
 | .FunctionDef _ _ b _ _ _ _ _ _ _ => b
 | _ => []
noncomputable def Zag (s : Stmt) : Scope := match s with
 | .FunctionDef _ _ _ _ _ _ sc _ _ _ => sc
 | _ => { kind := .function, names := [], isGenerator := false, isCoroutine := false }
noncomputable abbrev CX0 : CXT := fun _ _ _ _ _ _ => False
noncomputable abbrev E0 : XK := fun _ _ _ => False
theorem pass0 {X : Cx} : Zhk CX0 X E0 := fun _ _ _ _ _ _ _ h => h.elim
structure Fun (K : PySem.W.Frag) (x qual : Str) (st : Stmt) (f : Addr) (fd : FuncData) : Prop where
 ex : ∃ (oc : Value) (od : Option Addr) (kV doc pm : Value) (an : Option Addr) (cdv ct : Value) (osl : Array (Option Value)),
  fd = PySem.W.fnOf x qual (ZaD st) (ZaA st) (Zag st) .none kV doc pm an cdv ct /\ K.lookup f = some ⟨oc, od, .func fd, osl⟩ /\ PySem.W.codeIn K cdv qual = true
 kp : PySem.W.keepIn K (.ref f) = true
section
variable {P : Program} {w : World} {K : PySem.W.Frag} {mg : Str -> Option Value} {base : Heap}
theorem Fun.ok {x qual : Str} {st : Stmt} {f : Addr} {fd : FuncData} {N ps : List Str} {k : Nat} {sp : Sp} (F : Fun K x qual st f fd) (S : FnScope N ps (Zag st)) (len : ∀ vs H Q E, sp vs H Q E -> vs.length = ps.length)
  (hbody : ∀ (cdv : Value) (A : Around) (outer : List Env) (s : Shared) (H : Hp) (vs : List V) (Q : VK) (E : XK), Room k (A.deeper (envOfC qual (Zag st) s.heap.objs.size f cdv)) -> sp vs H Q E ->
   ∃ t, PSs (cxOf CX0 P w K mg base N qual (Zag st) f cdv A outer s H E).nox (ZaA st) t /\ t { nx := fun _ H' => Q .non H', rt := Q } (Zew N vs) H) : FnOk P w K mg base CX0 (k + 1) f fd ps sp := by
 obtain ⟨oc, od, kV, doc, pm, an, cdv, ct, osl, rfl, lk, hcd⟩ := F.ex
 refine fn_of lk hcd S len fun A outer s H vs Q E hr hsp => ?_
 obtain ⟨t, h, q⟩ := hbody cdv A outer s H vs Q E hr hsp
 exact ⟨t, h.nox, q⟩
theorem Fun.binds {x qual : Str} {st : Stmt} {f : Addr} {fd : FuncData} {ps : List Str} (F : Fun K x qual st f fd)
  (h : ∀ (kV doc pm : Value) (an : Option Addr) (cdv ct : Value) (us : List Value), us.length = ps.length -> bindArgs (PySem.W.fnOf x qual (ZaD st) (ZaA st) (Zag st) .none kV doc pm an cdv ct) ⟨us, []⟩ = pure (ps.zip us)) : Binds K fd ps [] := by
 obtain ⟨oc, od, kV, doc, pm, an, cdv, ct, osl, rfl, lk, hcd⟩ := F.ex
 exact .all (h kV doc pm an cdv ct)
theorem ZaY {x qual : Str} {st : Stmt} {f : Addr} {oc : Value} {od an : Option Addr} {osl : Array (Option Value)} {kV doc pm cdv ct : Value} (l : K.lookup f = some ⟨oc, od, .func (PySem.W.fnOf x qual (ZaD st) (ZaA st) (Zag st) .none kV doc pm an cdv ct), osl⟩)
  (c : PySem.W.codeIn K cdv qual = true) (k : PySem.W.keepIn K (.ref f) = true) : Fun K x qual st f (PySem.W.fnOf x qual (ZaD st) (ZaA st) (Zag st) .none kV doc pm an cdv ct) := ⟨⟨oc, od, kV, doc, pm, an, cdv, ct, osl, rfl, l, c⟩, k⟩
end
theorem Zjf {A : Around} {k : Nat} (hr : Room k A) : A.units + 1 < cLine := Nat.lt_of_le_of_lt (Nat.add_le_add_left (by decide : 1 <= 64) _) hr.units
section
variable {X : Cx}
theorem pv (i : Nat) {x : Str} {pos : Pos} (hN : X.N[i]? = some x := by rfl) (hv : Vis X.env.scope x := by first | exact Or.inl rfl | exact Or.inr (Or.inl rfl) | exact Or.inr (Or.inr rfl)) (hd : (x == ("__debug__" : Str)) = false := by decide)
  (hcd : (x == ("__classdict__" : Str)) = false := by decide) : PE X (.Name x pos) (tVar i) := pe_var hN hv hd hcd
end
theorem iteF {A B : Prop} (h : B) : if false = true then A else B := by
 rw [if_neg Bool.false_ne_true]
 exact h
theorem iteT {A B : Prop} (h : A) : if true = true then A else B := by
 rw [if_pos rfl]
 exact h
theorem ZkE {c A B : Prop} [Decidable c] (hc : c) (h : B) : if (!decide c) = true then A else B := by
 rw [decide_eq_true hc]
 exact iteF h
noncomputable def Same (H H' : Hp) : Prop := ∀ b o, H b = some o -> H' b = some o
theorem Same.refl (H : Hp) : Same H H := fun _ _ h => h
theorem Same.trans {H H1 H2 : Hp} (a : Same H H1) (b : Same H1 H2) : Same H H2 := fun c o h => b c o (a c o h)
theorem Same.free {H H' : Hp} (e : Same H H') {l : Addr} (h : H' l = Option.none) : H l = Option.none := by
  cases q : H l with
  | none => rfl
  | some o =>
    rw [e l o q] at h
    cases h
theorem Same.seq {K : PySem.W.Frag} {H H' : Hp} {a : Addr} {xs : List V} (e : Same H H') (h : SqL K H a xs) : SqL K H' a xs := by
 rcases h with (h | ⟨o, h⟩) | h
 ·exact .inl (.inl (e _ _ h))
 ·exact .inl (.inr ⟨o, e _ _ h⟩)
 ·exact .inr h
section
variable {κ : Type} [DecidableEq κ]
theorem Zlv {kvs : List (κ × V)} {k : κ} {v : V} (h : valV kvs k = some v) : k ∈ kvs.map (·.1) := by
 have q : (kvs.any fun kv => decide (kv.1 = k)) = true := by
  rw [ZeT, h]
  all_goals rfl
 obtain ⟨p, hp, e⟩ := List.any_eq_true.mp q
 exact List.mem_map.mpr ⟨p, hp, of_decide_eq_true e⟩
end
end L2
end
section
namespace L2
theorem opq {p : Prop} (h : let g : Prop := p; g) : p := h
open PySem PySem.Spec PyProof.Rows
theorem Zdy (env : Env) : ∀ (names : List (Str × NameKind)) (acc : List (Str × Addr)),
    (∀ y ∈ names, y.2 = .free -> ∃ c, env.cells.lookup y.1 = some c) ->
    ∃ cl : List (Str × Addr), (forIn names acc fun (x : Str × NameKind) (r : List (Str × Addr)) => (match x with
        | (name, kind) => if (kind == NameKind.free) = true then do
            let a <- cellOf env name
            pure (ForInStep.yield ((name, a) :: r))
          else pure (ForInStep.yield r) : Sem (ForInStep (List (Str × Addr))))) = (pure cl : Sem (List (Str × Addr))) /\
      (∀ x c, cl.lookup x = some c -> acc.lookup x = some c \/ env.cells.lookup x = some c) /\
      (∀ x, (acc.lookup x).isSome = true \/ (x, NameKind.free) ∈ names -> (cl.lookup x).isSome = true)
  | [], acc, _ => ⟨acc, by simp, fun x c h => .inl h, fun x h => h.elim id fun z => nomatch z⟩
  | (n, k) :: r, acc, h => by
    by_cases hk : k = .free
    · subst hk
      obtain ⟨c, hc⟩ := h (n, .free) List.mem_cons_self rfl
      obtain ⟨cl, e, h1, h2⟩ := Zdy env r ((n, c) :: acc) fun y hy => h y (List.mem_cons_of_mem _ hy)
      refine ⟨cl, ?_, fun x c' z => ?_, fun x z => ?_⟩
      · rw [List.forIn_cons]
        have q : cellOf env n = pure c := by unfold cellOf; rw [hc]
        simp only [q, beq_self_eq_true, if_true, pure_bind]
        exact e
      · rcases h1 x c' z with z | z
        · rw [List.lookup_cons] at z
          by_cases hx : x = n
          · subst hx
            simp at z
            subst z
            exact .inr hc
          · have hb : (x == n) = false := by simpa using hx
            rw [hb] at z
            exact .inl z
        · exact .inr z
      · refine h2 x ?_
        rw [List.lookup_cons]
        by_cases hx : x = n
        · subst hx
          left
          simp
        · have hb : (x == n) = false := by simpa using hx
          rw [hb]
          rcases z with z | z
          · exact .inl z
          · rcases List.mem_cons.mp z with z | z
            · cases z
              exact absurd rfl hx
            · exact .inr z
    · obtain ⟨cl, e, h1, h2⟩ := Zdy env r acc fun y hy => h y (List.mem_cons_of_mem _ hy)
      refine ⟨cl, ?_, h1, fun x z => h2 x ?_⟩
      · rw [List.forIn_cons]
        have hb : (k == NameKind.free) = false := by simpa using hk
        simp only [hb, Bool.false_eq_true, if_false, pure_bind]
        exact e
      · rcases z with z | z
        · exact .inl z
        · rcases List.mem_cons.mp z with z | z
          · cases z
            exact absurd rfl hk
          · exact .inr z
theorem ZeL {scope : Scope} {env : Env} (h : ∀ y ∈ scope.names, y.2 = .free -> ∃ c, env.cells.lookup y.1 = some c) :
  ∃ cl, closureFor scope env = pure cl /\ (∀ x c, cl.lookup x = some c -> env.cells.lookup x = some c) /\ ∀ x, (x, NameKind.free) ∈ scope.names -> ∃ c, cl.lookup x = some c := by
 obtain ⟨cl, e, h1, h2⟩ := Zdy env scope.names [] h
 refine ⟨cl, ?_, fun x c z => (h1 x c z).elim (fun q => by simp at q) id, fun x z => Option.isSome_iff_exists.mp (h2 x (.inr z))⟩
 unfold closureFor
 dsimp only
 rw [e]
 rfl
structure BkScope (N : List Str) (sc osc : Scope) (LN FN : List Str) (fr : List Nat) : Prop where
 kind : sc.kind = .function
 nocell : ∀ y ∈ sc.names, y.2 ≠ .cell
 names : ∀ x ∈ sc.names, x.2 = .local -> sc.names.lookup x.1 = some .local
 free : ∀ y ∈ sc.names, y.2 = .free -> osc.names.lookup y.1 = some .cell \/ osc.names.lookup y.1 = some .free
 fnk : ∀ x ∈ FN, osc.names.lookup x = some .cell \/ osc.names.lookup x = some .free
 fnf : ∀ x ∈ FN, sc.names.lookup x = some .free
 at' : FN.map some = fr.map fun j => N[j]?
theorem BkScope.place {N : List Str} {sc osc : Scope} {LN FN : List Str} {fr : List Nat} (S : BkScope N sc osc LN FN fr) {k : Nat} {x : Str} (e : FN[k]? = some x) : ∃ j : Nat, fr[k]? = some j /\ N[j]? = some x := by
  have h := congrArg (fun l => l[k]?) S.at'
  simp only [List.getElem?_map, e, Option.map_some] at h
  cases q : fr[k]? with
  | none => rw [q] at h; cases h
  | some j =>
    rw [q] at h
    exact ⟨j, rfl, (Option.some.inj h).symm⟩
theorem BkScope.frl {N : List Str} {sc osc : Scope} {LN FN : List Str} {fr : List Nat} (S : BkScope N sc osc LN FN fr) : fr.length = FN.length := by
 have h := congrArg List.length S.at'
 simpa using h.symm
noncomputable def Zc0 (LN : List Str) (fr : List Nat) (σ : St) : St := List.replicate LN.length none ++ fr.map fun j => (σ[j]?).getD none
noncomputable def bkCx (X : Cx) (LN FN : List Str) (sc : Scope) (cl : List (Str × Addr)) (C : Addr) (fp : List Addr) (pins : List (Addr × Obj)) (s : Shared) (H : Hp) : Cx :=
 { X with N := LN ++ FN, s₀ := s, H₀ := H, env := compEnvC sc cl C X.env, outer := X.stack, ex := fp, fn := fun _ => false, pn := X.pn ++ pins, xe := fun _ _ => False }
theorem Zck {env : Env} : ∀ {names : List (Str × NameKind)} {x : Str} {k : NameKind},
    (names.map fun (n, k) => if (k == NameKind.free && env.scope.kind == .function && env.kindOf n == some .cell) then (n, NameKind.cell) else (n, k)).lookup x = some k ->
    names.lookup x = some k \/ (names.lookup x = some .free /\ k = .cell)
  | [], _, _, h => by simp at h
  | (n, j) :: r, x, k, h => by
    have ih := @Zck env r x k
    have h : List.lookup x ((if (j == NameKind.free && env.scope.kind == .function && env.kindOf n == some .cell) = true then (n, NameKind.cell) else (n, j)) :: _) = some k := h
    rw [List.lookup_cons]
    by_cases hc : (j == NameKind.free && env.scope.kind == .function && env.kindOf n == some .cell) = true
    · rw [if_pos hc, List.lookup_cons] at h
      cases hx : x == n with
      | true =>
        rw [hx] at h
        simp only [Bool.and_eq_true, beq_iff_eq] at hc
        have hk : NameKind.cell = k := by simpa using h
        exact .inr ⟨by simp [hc.1.1], hk.symm⟩
      | false =>
        rw [hx] at h
        exact ih h
    · rw [if_neg hc, List.lookup_cons] at h
      cases hx : x == n with
      | true =>
        rw [hx] at h
        exact .inl h
      | false =>
        rw [hx] at h
        exact ih h
theorem ZkT {X : Cx} {pins : List (Addr × Obj)} {σ : St} {H : Hp} {s : Shared} {LN FN : List Str} {fr : List Nat} {sc : Scope} {cl : List (Str × Addr)} {C : Addr} {fp : List Addr} {h' : Heap} {tk : Nat} {m : Str -> Option Value}
    (I : Inv X pins σ H s) (S : BkScope X.N sc X.env.scope LN FN fr) (hf : ∀ b ∈ fp, FpOk X pins H b) (hfs : ∀ b ∈ fp, ∃ o, s.heap.get? b = some o)
    (h1 : ∀ x c, cl.lookup x = some c -> X.env.cells.lookup x = some c) (h2 : ∀ x, (x, NameKind.free) ∈ sc.names -> ∃ c, cl.lookup x = some c)
    (hC : s.heap.objs.size <= C) (hk : ∀ b o, s.heap.get? b = some o -> h'.get? b = some o) (hn : h'.Ns C m) :
    Inv (bkCx X LN FN sc cl C fp pins s H) [] (Zc0 LN fr σ) H { s with heap := h', toks := tk } := by
  have hsub : ∀ b, b ∉ X.fs -> b ≠ X.env.locals -> b ∉ frs X.stack := fun b n1 n2 z => (List.mem_cons.mp (I.stkSub b z)).elim n2 n1
  have hlk : ∀ x k, (relabel sc X.env).names.lookup x = some k -> (k = .cell \/ k = .free) -> sc.names.lookup x = some .free := fun x k e hk => by
    rcases Zck e with q | ⟨q, _⟩
    · rcases hk with rfl | rfl
      · exact absurd rfl (S.nocell _ (PySem.mem_of_lookup q))
      · exact q
    · exact q
  refine ⟨⟨I.ok.mod, ?_, I.ok.glob, I.ok.blt, hC, fun x y c e1 e2 => I.ok.inj x y c (h1 x c e1) (h1 y c e2), fun x hx => ?_, (fun x c z => absurd z (by intro z; cases z)), I.ok.hd, I.ok.frames, .inl rfl, fun b hb => ⟨?_, fun x c e z => ?_⟩, I.bs, Nat.le_trans I.ok.bsz I.sz, fun b o e hb => ?_, fun b hb => ?_, I.stack, I.stkFree⟩,
    rfl, I.bare, Un.kept hk, ⟨m, hn, fun i x v e1 e2 e3 => ?_⟩, fun x c e => ?_, ?_, fun x c e => I.freeC x c (h1 x c e), fun p hp => ?_, I.hok.kept hk, ?_⟩
  · exact S.kind
  · have hx : (relabel sc X.env).names.lookup x = some .cell \/ (relabel sc X.env).names.lookup x = some .free := hx
    rcases hx with hx | hx
    · exact h2 x (PySem.mem_of_lookup (hlk x _ hx (.inl rfl)))
    · exact h2 x (PySem.mem_of_lookup (hlk x _ hx (.inr rfl)))
  · obtain ⟨o, e⟩ := hfs b hb
    exact Nat.ne_of_lt (Nat.lt_of_lt_of_le (Heap.lt_size e) hC)
  · exact (hf b hb).2.2.2.2.1 x c (h1 x c e) z
  · obtain ⟨_, _, _, h3, _⟩ := hf b hb
    rcases h3 with z | z
    · exact I.ok.noex b o e z
    · exact absurd (Nat.lt_of_lt_of_le (Heap.lt_size (I.ok.bs b o e).1) z) (Nat.lt_irrefl _)
  · obtain ⟨_, n1, n2, _⟩ := hf b hb
    exact hsub b n2 n1
  · -- the free names' values
    have hi : LN.length <= i := by
      refine Nat.le_of_not_lt fun hlt => ?_
      unfold Zc0 at e2
      rw [List.getElem?_append_left (by simpa using hlt), List.getElem?_replicate] at e2
      split at e2 <;> cases e2
    have e1 : FN[i - LN.length]? = some x := by
      have e1 : (LN ++ FN)[i]? = some x := e1
      rwa [List.getElem?_append_right hi] at e1
    obtain ⟨j, ej, hj⟩ := S.place e1
    have e2 : (σ[j]?).getD none = some v := by
      unfold Zc0 at e2
      rw [List.getElem?_append_right (by simpa using hi), List.length_replicate, List.getElem?_map, ej] at e2
      simpa using e2
    have e2 : σ[j]? = some (some v) := by
      cases q : σ[j]? with
      | none => rw [q] at e2; cases e2
      | some z =>
        rw [q] at e2
        exact congrArg some e2
    have hkx := S.fnk x (List.mem_of_getElem? e1)
    obtain ⟨m0, hm0, hl⟩ := I.loc
    have hv : Vis X.env.scope x := hkx.elim (fun z => .inr (.inl z)) fun z => .inr (.inr z)
    obtain ⟨u, r, l⟩ := hl j x v hj e2 hv
    refine ⟨u, r, ?_⟩
    rcases l with ⟨k1, _⟩ | ⟨_, c, ec, z⟩
    · have k1 : X.env.scope.names.lookup x = some .local := k1
      rcases hkx with q | q <;> rw [q] at k1 <;> cases k1
    · have e3 : Vis (relabel sc X.env) x := e3
      rcases e3 with q | q | q
      · -- a block's own name is none of the free ones, unless it shadows: then the kinds say local
        rcases Zck q with q' | ⟨_, q'⟩
        · rw [S.fnf x (List.mem_of_getElem? e1)] at q'
          cases q'
        · cases q'
      · obtain ⟨c', ec'⟩ := h2 x (PySem.mem_of_lookup (hlk x _ q (.inl rfl)))
        have := h1 x c' ec'
        rw [ec] at this; cases this
        exact .inr ⟨.inl q, c, ec', by obtain ⟨o, ho, hd⟩ := z; exact ⟨o, hk _ _ ho, hd⟩⟩
      · obtain ⟨c', ec'⟩ := h2 x (PySem.mem_of_lookup (hlk x _ q (.inr rfl)))
        have := h1 x c' ec'
        rw [ec] at this; cases this
        exact .inr ⟨.inr q, c, ec', by obtain ⟨o, ho, hd⟩ := z; exact ⟨o, hk _ _ ho, hd⟩⟩
  · obtain ⟨v, o, ho, hd⟩ := I.cell x c (h1 x c e)
    exact ⟨v, o, hk _ _ ho, hd⟩
  · exact I.hok.fresh hC
  · have hp : p ∈ (X.pn ++ pins) ++ [] := hp
    rw [List.append_nil] at hp
    obtain ⟨e, n, ne, nf, d⟩ := I.pin p hp
    exact ⟨hk _ _ e, n, Nat.ne_of_lt (Nat.lt_of_lt_of_le (Heap.lt_size e) hC), hsub _ nf ne, d⟩
  · unfold Zc0
    show _ = (LN ++ FN).length
    simp [S.frl]
end L2
end
section
namespace L2
open PySem PySem.Spec PyProof.Rows
noncomputable def PTs (X : Cx) (ifs : List Expr) (t : TT) : Prop :=
 ∀ (pins : List (Addr × Obj)) (s : Shared) (σ : St) (H : Hp) (Q : Bool -> Hp -> Prop), Inv X pins σ H s -> t σ H Q ->
  wpAny (model X.prog X.w) X.A (forIn ifs true fun c r => if r = true then do let ok <- isTrue c X.env (eval c X.env); pure (ForInStep.yield ok) else pure (ForInStep.yield r)) (TP X pins σ Q) X.xe s
noncomputable def tTrue : TT := fun _ H Q => Q true H
theorem ZbH {X : Cx} : PTs X [] tTrue := fun _ _ _ H _ I h => wpAny_tests_nil ⟨H, I, h⟩
theorem Un.track {fs ex : List Addr} {H H1 : Hp} {h h1 : Heap} {a : Addr} {o : HO} (u : Un fs ex H H1 h h1) (hp : h.objs.size <= a) (hn : H a = none) : Un fs ex H (upd H1 a o) h h1 where
 keep := u.keep
 slot := u.slot
 free := fun b ob q n hx => by
  rw [ZaH (Nat.ne_of_lt (Nat.lt_of_lt_of_le (Heap.lt_size q) hp))]
  exact u.free b ob q n hx
 there := u.there
 tups := fun b xs q => by
  rw [ZaH (fun z => by rw [z, hn] at q; cases q)]
  exact u.tups b xs q
 frzs := fun b ob x q => by
  rw [ZaH (fun z => by rw [z, hn] at q; cases q)]
  exact u.frzs b ob x q
 tbls := fun b ps q => by
  rw [ZaH (fun z => by rw [z, hn] at q; cases q)]
  exact u.tbls b ps q
theorem HOk.track {P : Program} {w : World} {H : Hp} {h : Heap} {a : Addr} {o : HO} (x : HOk P w H h) (hn : H a = none) (new : ObjOk P w (upd H a o) h a o) : HOk P w (upd H a o) h := fun b u e => by
 by_cases hb : b = a
 ·subst hb
  rw [Zac] at e
  cases e
  exact new
 ·rw [ZaH hb] at e
  refine (x b u e).stay (fun _ _ _ q => q) (fun c q => ?_) fun c xs q => ?_
  ·rw [ZaH (fun z => by rw [z, hn] at q; cases q)]
   exact q
  ·rw [ZaH (fun z => by rw [z, hn] at q; cases q)]
   exact q
theorem ZhD {EB : Value -> Shared -> Prop} {prog : Program} {w : World} {A : Around} {R : Result -> Shared -> Prop} {s : Shared} {elt target iter : Expr} {ifs : List Expr} {scope : Scope} {pos : Pos} {it acc : Value} {env : Env} (I : Nat -> Shared -> Prop)
    (turn : ∀ n s, I n s -> wpAny (model prog w) A (pyNext it) (fun r s₁ => match r with
      | none => R (.ok .next) s₁
      | some v => wpAny (model prog w) A (letOwnedTupleGo target it v) (fun _ s₁' => wpAny (model prog w) A (assign target env v) (fun _ s₂ =>
          wpAny (model prog w) A (forIn ifs true fun c r => if r = true then do let ok <- isTrue c env (eval c env); pure (ForInStep.yield ok) else pure (ForInStep.yield r)) (fun ok s₃ =>
            if ok = true then wpAny (model prog w) A (eval elt env) (fun x s₄ =>
              wpAny (model prog w) A (call (.builtin "list.append") [acc, x]) (fun _ s₅ => ∃ m, m < n /\ I m s₅) (fun _ _ => False) s₄) EB s₃
            else ∃ m, m < n /\ I m s₃) (fun _ _ => False) s₂) (fun _ _ => False) s₁') (fun _ _ => False) s₁) (fun _ _ => False) s)
    (hEB : ∀ e s', EB e s' -> notedBy (model prog w) A env (fun e s' => R (.error e) s') e s') (n : Nat) (h : I n s) :
    codeAny (model prog w) A (.compLoop (.ListComp elt [⟨target, iter, ifs, 0⟩] scope pos) 0 it acc env) R s := by
  refine codeAny_loop rfl I (fun n s hI => ?_) n h
  show wpAny _ A ((compTurn (.ListComp elt [⟨target, iter, ifs, 0⟩] scope pos) 0 it acc env).onRaise (fun x => do noteFrame x env; theTreesLotGoes x)) _ _ s
  refine wpAny_noted ?_
  rw [compTurn_list]
  refine wpAny_bind (wpAny_standAt (wpAny_bind (wpAny_mono (turn n s hI) (fun r s₁ h₁ => ?_) fun _ _ h' => h'.elim)))
  cases r with
  | none => exact wpAny_pure h₁
  | some v =>
    refine wpAny_bind (wpAny_mono h₁ (fun _ s₁' h₁' => ?_) fun _ _ h' => h'.elim)
    refine wpAny_bind (wpAny_mono h₁' (fun _ s₂ h₂ => wpAny_bind (wpAny_mono h₂ (fun ok s₃ h₃ => ?_) fun _ _ h' => h'.elim)) fun _ _ h' => h'.elim)
    cases ok with
    | false => exact wpAny_pure ⟨rfl, h₃⟩
    | true =>
      exact wpAny_bind (wpAny_bind (wpAny_mono h₃ (fun x s₄ h₄ => wpAny_bind (wpAny_mono h₄ (fun _ s₅ h₅ => wpAny_pure (wpAny_pure ⟨rfl, h₅⟩)) fun _ _ h' => h'.elim)) fun e s' h' => hEB e s' h'))
noncomputable def ZjK (X : Cx) (C : Addr) (e : Value) (s' : Shared) : Prop := ∃ m, s'.heap.Ns C m /\ ∀ h', Heap.SameBut C s'.heap h' -> ∀ cenv : Env, cenv.locals = C -> wpAny (model X.prog X.w) X.A (PySem.passOn "comprehension.variables-let-go" e cenv : Sem Value) (fun _ _ => False) X.xe { s' with heap := h' }
noncomputable def bkXe (X : Cx) (sc : Scope) (cl : List (Str × Addr)) (C : Addr) : Value -> Shared -> Prop := notedBy (model X.prog X.w) X.A (compEnvC sc cl C X.env) (ZjK X C)
noncomputable def BkIn (X : Cx) (C : Addr) (fp : List Addr) (pins : List (Addr × Obj)) (s : Shared) (H : Hp) : Prop := (∃ σ, Inv X pins σ H s) /\ (∀ b ∈ fp, FpOk X pins H b) /\ s.heap.objs.size <= C
noncomputable def bkX (X : Cx) (LN FN : List Str) (sc : Scope) (cl : List (Str × Addr)) (C : Addr) (fp : List Addr) (pins : List (Addr × Obj)) (s : Shared) (H : Hp) : Cx := (bkCx X LN FN sc cl C fp pins s H).wish (bkXe X sc cl C)
section
variable {X : Cx} {tg elt iter : Expr} {ifs : List Expr} {sc : Scope} {pos : Pos} {LN FN : List Str} {fr : List Nat} {wi : TI} {g : TG} {tt : TT} {te : TE}
noncomputable def CW (J : It) (g : TG) (tt : TT) (te : TE) (W : Nat -> Nat -> List V -> St -> Hp -> Prop) (Q : VK) : Prop :=
 ∀ i m ys σ H, W i m ys σ H ->
  (J.stop i H /\ ys.length <= sizeLine /\ ∀ p, H p = none -> Q (.ref p) (upd H p (.lst ys))) \/
  (J.go i H /\ ∃ N : List V -> St -> Hp -> Prop, (∀ ys' σ' H', N ys' σ' H' -> ∃ m', m' < m /\ W (i + 1) m' ys' σ' H') /\
   ∀ x H2, J.yld i H x H2 -> g x σ H2 fun σ2 H3 => tt σ2 H3 fun ok H4 => if ok = true then te σ2 H4 fun y H5 => ys.length < sizeLine /\ N (ys ++ [y]) σ2 H5 else N ys σ2 H4)
noncomputable def ZlA (LN : List Str) (fr : List Nat) (wi : TI) (g : TG) (tt : TT) (te : TE) : TE := fun σ H Q => wi σ H fun J H1 =>
 ∃ W : Nat -> Nat -> List V -> St -> Hp -> Prop, (∃ m, W 0 m [] (Zc0 LN fr σ) H1) /\ CW J g tt te W Q
theorem ZjG {pins : List (Addr × Obj)} {σ : St} {H2 : Hp} {s2 : Shared} {it : Addr} {fp : List Addr} {tn : Nat -> Heap -> Prop} {J : It} {cl : List (Str × Addr)} {W : Nat -> Nat -> List V -> St -> Hp -> Prop} {Q : VK} {m0 : Nat}
    {R : Value -> Addr -> Result -> Shared -> Prop} {E : Value -> Shared -> Prop}
    (hc : X.calm = true) (S : BkScope X.N sc X.env.scope LN FN fr)
    (hg : ∀ cl C fp pins s H, PG (bkCx X LN FN sc cl C fp pins s H) tg g) (ht : ∀ cl C fp pins s H, PTs (bkCx X LN FN sc cl C fp pins s H) ifs tt) (he : ∀ cl C fp pins s H, BkIn X C fp pins s H -> PE (bkX X LN FN sc cl C fp pins s H) elt te)
    (h1 : ∀ x c, cl.lookup x = some c -> X.env.cells.lookup x = some c) (h2 : ∀ x, (x, NameKind.free) ∈ sc.names -> ∃ c, cl.lookup x = some c)
    (I2 : Inv X pins σ H2 s2) (T : Turn X.prog X.w X.K tg J fp it tn) (st2 : tn 0 s2.heap) (f2 : ∀ b ∈ fp, FpOk X pins H2 b) (w0 : W 0 m0 [] (Zc0 LN fr σ) H2) (turn : CW J g tt te W Q)
    (hR : ∀ D C s' H' ys m, s'.heap.Ns C m -> Inv X pins σ (upd H' D (.lst ys)) s' -> FpOk X pins (upd H' D (.lst ys)) C -> Q (.ref D) (upd H' D (.lst ys)) -> R (.ref D) C (.ok .next) s') (hRE : ∀ D C e s', ZjK X C e s' -> R (.ref D) C (.error e) s') :
    wpAny (model X.prog X.w) X.A (newList []) (fun acc s₃ => wpAny (model X.prog X.w) X.A (newFunctionEnv sc X.env.globals cl [] X.env.qual none .none (some X.env)) (fun cenv s₄ =>
      codeAny (model X.prog X.w) X.A (.compStart (.ListComp elt [⟨tg, iter, ifs, 0⟩] sc pos) 0 (.ref it) acc { cenv with scope := relabel sc X.env }) (R acc cenv.locals) s₄) E s₃) E s2 := by
  refine wpAny_newObj_type (wpAny_newFunctionEnv S.nocell (by intro y hy; simp at hy) (fun h₁ hns hsb => ?_) S.kind)
  dsimp only at hns hsb ⊢
  generalize hH2 : s2.heap.push { cls := .type "list", dict := none, data := .seq ([] : List Value).toArray } = G at hns hsb ⊢
  have hC : G.objs.size = s2.heap.objs.size + 1 := by rw [<- hH2, Heap.size_push]
  have hDC : s2.heap.objs.size ≠ G.objs.size := by rw [hC]; exact Nat.ne_of_lt (Nat.lt_succ_self _)
  have hCle : s2.heap.objs.size <= G.objs.size := by rw [hC]; exact Nat.le_succ _
  have old : ∀ b o, s2.heap.get? b = some o -> h₁.get? b = some o := fun b o e =>
    hsb.extBut b o (by rw [hC]; exact Nat.ne_of_lt (Nat.lt_succ_of_lt (Heap.lt_size e))) (Heap.get?_push_of_some _ (hH2 ▸ Heap.get?_push_of_some _ e))
  have hacc : h₁.PlainList s2.heap.objs.size #[] := ⟨_, hsb.extBut _ _ hDC (Heap.get?_push_of_some _ (hH2 ▸ Heap.get?_push_size _ rfl))⟩
  have hfs : ∀ b ∈ fp, ∃ o, s2.heap.get? b = some o := fun b hb => let ⟨o, e, _⟩ := T.obj 0 _ st2 b hb; ⟨o, e⟩
  have hflt : ∀ b ∈ fp, b < s2.heap.objs.size := fun b hb => let ⟨o, e⟩ := hfs b hb; Heap.lt_size e
  generalize hD : s2.heap.objs.size = D at *
  generalize hCC : G.objs.size = C at *
  have I0 := ZkT (LN := LN) (cl := cl) (C := C) (tk := s2.toks + ([] : List (Str × Value)).length) I2 S f2 hfs h1 h2 (by rw [hD]; exact hCle) old hns
  have hin : BkIn X C fp pins s2 H2 := ⟨⟨σ, I2⟩, f2, by rw [hD]; exact hCle⟩
  have fD : FpOk X pins H2 D := I2.fpOk (Nat.le_of_eq hD) (I2.hok.fresh (Nat.le_of_eq hD))
  have stD : ∀ {pl : List (Addr × Obj)} {H' : Hp}, H' D = none -> (∀ p ∈ pl, p.1 ≠ D) -> FpOk (bkCx X LN FN sc cl C fp pins s2 H2) pl H' D := fun {pl H'} hn hp => by
    refine ⟨hn, hDC, fun z => ?_, .inr (Nat.le_of_eq hD), fun x c e => fD.2.2.2.2.1 x c (h1 x c e), fun p hp' => ?_⟩
    · exact (List.mem_cons.mp (I2.stkSub D z)).elim fD.2.1 fD.2.2.1
    · have hp' : p ∈ (X.pn ++ pins) ++ pl := hp'
      rcases List.mem_append.mp hp' with q | q
      · exact fD.2.2.2.2.2 p q
      · exact hp p q
  have stat : ∀ {pl : List (Addr × Obj)} {H' : Hp}, (∀ b ∈ fp, H' b = none) -> (∀ p ∈ pl, p.1 = D) -> ∀ b ∈ fp, FpOk (bkCx X LN FN sc cl C fp pins s2 H2) pl H' b := fun {pl H'} hn hp b hb => by
    obtain ⟨_, n1, n2, n3, n4, n5⟩ := f2 b hb
    refine ⟨hn b hb, Nat.ne_of_lt (Nat.lt_of_lt_of_le (hflt b hb) hCle), fun z => ?_, .inl hb, fun x c e => n4 x c (h1 x c e), fun p hp' => ?_⟩
    · exact (List.mem_cons.mp (I2.stkSub b z)).elim n1 n2
    · have hp' : p ∈ (X.pn ++ pins) ++ pl := hp'
      rcases List.mem_append.mp hp' with q | q
      · exact n5 p q
      · rw [hp p q]
        exact Nat.ne_of_gt (hflt b hb)
  have pinD : ∀ {s' : Shared}, ∀ p ∈ Zb8 [D] s'.heap, p.1 = D := fun p hp => by simpa using (Zfu hp).1
  have key : ∀ s₄ : Shared, s₄ = { s2 with heap := h₁, toks := s2.toks + ([] : List (Str × Value)).length } ->
      codeAny (model X.prog X.w) X.A (.compLoop (.ListComp elt [⟨tg, iter, ifs, 0⟩] sc pos) 0 (.ref it) (.ref D) (compEnvC sc cl C X.env)) (R (.ref D) C) s₄ := by
    rintro s₄ rfl
    refine ZhD (EB := bkXe X sc cl C) (fun n s' => ∃ i ys σ' H' its, Inv (bkCx X LN FN sc cl C fp pins s2 H2) [] σ' H' s' /\ tn i s'.heap /\ (∀ b ∈ fp, H' b = none) /\ W i n ys σ' H' /\ Vals ys its /\ s'.heap.PlainList D its.toArray /\ H' D = none) ?_ (fun e s' h' => wpAny_mono h' (fun _ s'' q => hRE D C e s'' q) fun e' s'' q => hRE D C e' s'' q) m0
      ⟨0, [], _, H2, [], I0, T.keep _ _ _ st2 (fun b _ o e => old b o e), fun b hb => (f2 b hb).1, w0, .nil, hacc, fD.1⟩
    rintro n s3 hh
    refine opq ?_
    intro gg
    obtain ⟨i, ys, σ3, H3, its, I3, st3, fr3, w3, rv, pl, nD⟩ := hh
    have plo : ∃ o, s3.heap.get? D = some o /\ ∀ v, o.data ≠ .cell v := by
      obtain ⟨k, e⟩ := pl
      exact ⟨_, e, fun v z => by cases z⟩
    have I3' : Inv (bkCx X LN FN sc cl C fp pins s2 H2) ([] ++ Zb8 [D] s3.heap) σ3 H3 s3 := I3.pinned (fp := [D]) (fun b hb => by
      obtain rfl : b = D := by simpa using hb
      exact stD nD (fun _ z => nomatch z)) (fun b hb => by
      obtain rfl : b = D := by simpa using hb
      exact plo)
    have I3' : Inv (bkCx X LN FN sc cl C fp pins s2 H2) (Zb8 [D] s3.heap) σ3 H3 s3 := I3'
    have keepD : ∀ {pl' : List (Addr × Obj)} {σ' : St} {H' : Hp} {s' : Shared}, Inv (bkCx X LN FN sc cl C fp pins s2 H2) (Zb8 [D] s3.heap ++ pl') σ' H' s' -> s'.heap.PlainList D its.toArray /\ H' D = none := fun {pl' σ' H' s'} J => by
      obtain ⟨k, e⟩ := pl
      have := J.pin (D, _) (List.mem_append_right _ (List.mem_append_left _ (Zcr (by simp) e)))
      exact ⟨⟨k, this.1⟩, this.2.1⟩
    have keepD0 : ∀ {σ' : St} {H' : Hp} {s' : Shared}, Inv (bkCx X LN FN sc cl C fp pins s2 H2) (Zb8 [D] s3.heap) σ' H' s' -> s'.heap.PlainList D its.toArray /\ H' D = none := fun {σ' H' s'} J => by
      refine keepD (pl' := []) (σ' := σ') ?_
      rw [List.append_nil]
      exact J
    rcases turn i n ys σ3 H3 w3 with ⟨stop, hlen, q⟩ | ⟨go, N, hN, step⟩
    · refine thn (T.done (bkCx X LN FN sc cl C fp pins s2 H2) rfl rfl rfl hc i (Zb8 [D] s3.heap) s3 σ3 H3 _ I3' (stat fr3 (fun p hp => pinD (s' := s3) p hp)) st3 stop) fun r s4 hh1 => ?_
      refine opq ?_
      intro gg1
      obtain ⟨hr, I4⟩ := hh1
      subst hr
      obtain ⟨pl4, n4⟩ := keepD0 I4
      have u4 : Un (frs X.stack) fp H2 (upd H3 D (.lst ys)) s2.heap s4.heap := Un.track I4.base (Nat.le_of_eq hD) fD.1
      have nC : H3 C = none := I4.free
      have o4 : HOk X.prog X.w (upd H3 D (.lst ys)) s4.heap := HOk.track I4.hok n4 (by
        obtain ⟨k, e⟩ := pl4
        exact ⟨hlen, its, k, rv, e⟩)
      have J : Inv X pins σ (upd H3 D (.lst ys)) s4 := I2.call' (s' := s4) (ch := fp) I4.os u4 o4 I4.bare fun b hb => by
        obtain ⟨_, n1, n2, n3, n4, n5⟩ := f2 b hb
        exact ⟨n3, n1, n4, n5⟩
      obtain ⟨m, hm, _⟩ := I4.loc
      exact hR D C s4 H3 ys m hm J (I2.fpOk (by rw [hD]; exact hCle) (by rw [ZaH (Ne.symm hDC)]; exact nC)) (q D n4)
    · refine thn (T.item (bkCx X LN FN sc cl C fp pins s2 H2) rfl rfl rfl hc i (Zb8 [D] s3.heap) s3 σ3 H3 _ I3' (stat fr3 (fun p hp => pinD (s' := s3) p hp)) st3 go) fun r s4 hh2 => ?_
      refine opq ?_
      intro gg2
      obtain ⟨u, hr, h4⟩ := hh2
      subst hr
      refine thn h4 fun _ s5 hh3 => ?_
      refine opq ?_
      intro gg3
      obtain ⟨x, H5, I5, r5, y5, st5, fr5⟩ := hh3
      have I5' := I5.pinned (stat fr5 (fun p hp => pinD (s' := s3) p hp)) (T.obj _ _ st5)
      refine thn (hg cl C fp pins s2 H2 _ s5 σ3 H5 x u _ I5' r5 (step x H5 y5)) fun _ s6 hh4 => ?_
      refine opq ?_
      intro gg4
      obtain ⟨σ6, H6, I6, q6⟩ := hh4
      refine thn (ht cl C fp pins s2 H2 _ s6 σ6 H6 _ I6 q6) fun ok s7 hh5 => ?_
      obtain ⟨H7, I7, q7⟩ := hh5
      have again : ∀ {s' : Shared} {H' : Hp}, Inv (bkCx X LN FN sc cl C fp pins s2 H2) (Zb8 [D] s3.heap ++ Zb8 fp s5.heap) σ6 H' s' -> tn (i + 1) s'.heap /\ ∀ b ∈ fp, H' b = none := fun {s' H'} J => by
        refine ⟨T.keep _ _ _ st5 fun b hb o e => (J.pin (b, o) (List.mem_append_right _ (List.mem_append_right _ (Zcr hb e)))).1, fun b hb => ?_⟩
        obtain ⟨o, e, d⟩ := T.obj _ _ st5 b hb
        exact (J.pin (b, o) (List.mem_append_right _ (List.mem_append_right _ (Zcr hb e)))).2.1
      have bare : ∀ {s' : Shared} {H' : Hp}, Inv (bkCx X LN FN sc cl C fp pins s2 H2) (Zb8 [D] s3.heap ++ Zb8 fp s5.heap) σ6 H' s' -> Inv (bkCx X LN FN sc cl C fp pins s2 H2) [] σ6 H' s' := fun J => J.pins_of fun p hp => nomatch hp
      cases ok with
      | false =>
        rw [if_neg Bool.false_ne_true] at q7 ⊢
        obtain ⟨m', hm, w7⟩ := hN ys σ6 H7 q7
        obtain ⟨pl7, n7⟩ := keepD I7
        exact ⟨m', hm, i + 1, ys, σ6, H7, its, bare I7, (again I7).1, (again I7).2, w7, rv, pl7, n7⟩
      | true =>
        rw [if_pos rfl] at q7 ⊢
        refine wpAny_mono (he cl C fp pins s2 H2 hin _ s7 σ6 H7 _ (I7.wish _) q7) (fun v s8 hz8 => ?_) fun _ _ z => z
        obtain ⟨y, H8, I8, r8, hl8, q8⟩ := hz8
        have I8 := I8.unwish
        obtain ⟨m', hm, w8⟩ := hN _ σ6 H8 q8
        obtain ⟨pl8, n8⟩ := keepD I8
        obtain ⟨t8, f8⟩ := again I8
        have hsz : its.toArray.size <= sizeLine := by
          have := rv.length
          rw [List.size_toArray, <- this]
          exact Nat.le_of_lt hl8
        refine wpAny_list_append_plain pl8 (fun h' pl' sb => ?_) hsz
        refine ⟨m', hm, i + 1, ys ++ [y], σ6, H8, its ++ [v], ?_, ?_, f8, w8, rv.append (.cons r8 .nil), ?_, n8⟩
        · obtain ⟨d0, d1, d2, d3, d4, d5⟩ := stD (pl := []) n8 (fun _ z => nomatch z)
          exact (bare I8).turned (t' := s8.toks) (fun b o hb e => (sb.2 b hb).trans e) d0 d1 d3 d4 d5
        · exact T.keep _ _ _ t8 fun b hb o e => (sb.2 b (Nat.ne_of_lt (hflt b hb))).trans e
        · simpa using pl'
  exact codeAny_compStart_list (key _ rfl) (T.self _ 0 _ _ _ (T.keep _ _ _ st2 fun b _ o e => old b o e) (key _ rfl))
theorem PE.any {E : Value -> Shared -> Prop} {e : Expr} {t : TE} (h : PE X e t) (hx : X.xe = fun _ _ => False) : PE (X.wish E) e t := by
 intro pins s σ H Q I q
 refine wpAny_mono (h pins s σ H Q I.unwish q) (fun v s1 h1 => ?_) (fun _ _ z => by rw [hx] at z; exact z.elim)
 obtain ⟨y, H1, I1, r1, q1⟩ := h1
 exact ⟨y, H1, I1.wish E, r1, q1⟩
theorem ZbY (hc : X.calm = true) (S : BkScope X.N sc X.env.scope LN FN fr) (hi : PI X tg iter wi)
  (hg : ∀ cl C fp pins s H, PG (bkCx X LN FN sc cl C fp pins s H) tg g) (ht : ∀ cl C fp pins s H, PTs (bkCx X LN FN sc cl C fp pins s H) ifs tt) (he : ∀ cl C fp pins s H, PE (bkCx X LN FN sc cl C fp pins s H) elt te)
  (hs : ∀ x, foldedSetIterable iter X.env x = pure x := by intro _; rfl) : PE X (.ListComp elt [⟨tg, iter, ifs, 0⟩] sc pos) (ZlA LN fr wi g tt te) := by
 intro pins s σ H Q I h
 rw [eval_ListComp]
 obtain ⟨cl, ecl, h1, h2⟩ := ZeL (scope := sc) (env := X.env) fun y hy hk => I.ok.has y.1 (S.free y hy hk)
 refine wpAny_comprehension_free (use := none) rfl hs ecl S.kind S.names (thn (hi pins s σ H _ I h) fun v s1 q1 => thn q1 fun itv s2 q2 => ?_)
 obtain ⟨it, fp, tn, J, H2, e, I2, T, st2, f2, W, ⟨m0, w0⟩, turn⟩ := q2
 subst e
 refine ZjG (R := fun acc C => compPost (model X.prog X.w) X.A X.xe none (EP X pins σ Q) acc C) hc S hg ht (fun cl C fp pins s H _ => (he cl C fp pins s H).any rfl) h1 h2 I2 T st2 f2 w0 turn (fun D C s' H' ys m hn J fC q => ?_) (fun _ _ _ _ z => z)
 refine ⟨m, hn, fun h' sb => ⟨.ref D, _, J.turned (t' := s'.toks) (fun b o hb e => (sb.2 b hb).trans e) fC.1 fC.2.1 fC.2.2.2.1 fC.2.2.2.2.1 fC.2.2.2.2.2, rfl, q⟩⟩
theorem Zf9 {i : Nat} {x : Str} {pos' pos2 : Pos} (hc : X.calm = true) (hN : X.N.Nodup) (hix : X.N[i]? = some x) (hx : X.env.scope.names.lookup x = some .local) (S : BkScope X.N sc X.env.scope LN FN fr) (hi : PI X tg iter wi)
  (hg : ∀ cl C fp pins s H, PG (bkCx X LN FN sc cl C fp pins s H) tg g) (ht : ∀ cl C fp pins s H, PTs (bkCx X LN FN sc cl C fp pins s H) ifs tt) (he : ∀ cl C fp pins s H, PE (bkCx X LN FN sc cl C fp pins s H) elt te)
  (hsw : swapsWith (.ListComp elt [⟨tg, iter, ifs, 0⟩] sc pos) (some (.Name x pos')) pos2.line X.env = pure true := by rfl)
  (hs : ∀ x, foldedSetIterable iter X.env x = pure x := by intro _; rfl) : PS X (.Assign [.Name x pos'] (.ListComp elt [⟨tg, iter, ifs, 0⟩] sc pos) pos2) (tAsg (ZlA LN fr wi g tt te) (ZdQ i)) := by
 intro pins s σ H D0 I h
 rw [exec_Assign_Name_used _ _ _ _ hsw]
 refine wpAny_bind (wpAny_standAt (wpAny_bind ?_))
 show wpAny _ X.A (do let _ <- comprehension (.ListComp elt [⟨tg, iter, ifs, 0⟩] sc pos) sc X.env _ (newList []) false (eval iter X.env) (some (assign (.Name x pos') X.env))) _ _ s
 obtain ⟨cl, ecl, h1, h2⟩ := ZeL (scope := sc) (env := X.env) fun y hy hk => I.ok.has y.1 (S.free y hy hk)
 refine wpAny_bind (wpAny_mono (wpAny_comprehension_free (use := some (assign (.Name x pos') X.env)) (Q := fun _ s' => SP X pins D0 .next s') rfl hs ecl S.kind S.names (thn (hi pins s σ H _ I h) fun v s1 q1 => thn q1 fun itv s2 q2 => ?_))
  (fun _ s' hq => wpAny_pure (wpAny_pure hq)) fun _ _ e => e)
 obtain ⟨it, fp, tn, J, H2, e, I2, T, st2, f2, W, ⟨m0, w0⟩, turn⟩ := q2
 subst e
 refine ZjG (R := fun acc C => compPost (model X.prog X.w) X.A X.xe (some (assign (.Name x pos') X.env)) (fun _ s' => SP X pins D0 .next s') acc C) hc S hg ht (fun cl C fp pins s H _ => (he cl C fp pins s H).any rfl) h1 h2 I2 T st2 f2 w0 turn (fun D C s' H' ys m hn J fC q => ?_) (fun _ _ _ _ z => z)
 show wpAny _ X.A (assign (.Name x pos') X.env (.ref D)) _ _ s'
 refine wpAny_assign_Name (Zfl J hN hix (.inl hx) (show RelV (.ref D) (.ref D) from rfl) (fun s'' J2 ⟨a, sb2, ha⟩ => ?_) (.inr hx))
 have nCa : C ≠ a := by
  rcases ha with z | z
  ·rw [z]; exact fC.2.1
  ·exact fun q => fC.2.2.2.2.1 x a z q.symm
 refine ⟨m, hn.sameBut sb2 nCa, fun h' sb => ⟨_, _, J2.turned (t' := s''.toks) (fun b o hb e => (sb.2 b hb).trans e) fC.1 fC.2.1 fC.2.2.2.1 fC.2.2.2.2.1 fC.2.2.2.2.2, q⟩⟩
end
end L2
end
section
namespace L2
open PySem PySem.Spec PyProof.Rows
inductive D where
 | non | bl (b : Bool) | int (i : Int) | str (x : Str) | tup (ds : List D)
mutual
noncomputable def Rep (H : Hp) : D -> V -> Prop
 | .non, v => v = .non
 | .bl b, v => v = .bl b
 | .int i, v => v = .int i
 | .str x, v => v = .str x
 | .tup ds, v => ∃ a xs, v = .ref a /\ H a = some (.tup xs) /\ Reps H ds xs
noncomputable def Reps (H : Hp) : List D -> List V -> Prop
 | [], vs => vs = []
 | d :: ds, vs => ∃ v r, vs = v :: r /\ Rep H d v /\ Reps H ds r
end
noncomputable def TSame (H H' : Hp) : Prop := ∀ a xs, H a = some (.tup xs) -> H' a = some (.tup xs)
theorem Same.ts {H H' : Hp} (h : Same H H') : TSame H H' := fun a xs e => h a _ e
theorem Same.new {H : Hp} {a : Addr} {o : HO} (h : H a = none) : Same H (upd H a o) := fun b u e => by rw [ZaH (Zba e h)]; exact e
theorem TSame.wr {H : Hp} {a : Addr} {o : HO} (h : ∀ xs, H a ≠ some (.tup xs)) : TSame H (upd H a o) := fun b xs e => by
 rw [ZaH (fun z => by subst z; exact h xs e)]
 exact e
mutual
theorem Rep.mono {H H' : Hp} (t : TSame H H') : ∀ {d : D} {v : V}, Rep H d v -> Rep H' d v
  | .non, _, h => by simpa [Rep] using h
  | .bl _, _, h => by simpa [Rep] using h
  | .int _, _, h => by simpa [Rep] using h
  | .str _, _, h => by simpa [Rep] using h
  | .tup ds, v, h => by
    rw [Rep] at h ⊢
    obtain ⟨a, xs, e, ha, r⟩ := h
    exact ⟨a, xs, e, t a xs ha, Reps.mono t r⟩
theorem Reps.mono {H H' : Hp} (t : TSame H H') : ∀ {ds : List D} {vs : List V}, Reps H ds vs -> Reps H' ds vs
  | [], _, h => by simpa [Reps] using h
  | d :: ds, vs, h => by
    rw [Reps] at h ⊢
    obtain ⟨v, r, e, h1, h2⟩ := h
    exact ⟨v, r, e, Rep.mono t h1, Reps.mono t h2⟩
end
theorem Zbq {H : Hp} {i : Int} : Rep H (.int i) (.int i) := by rw [Rep]
theorem ZbP {H : Hp} {a : Addr} {xs : List V} {ds : List D} (h : H a = some (.tup xs)) (r : Reps H ds xs) : Rep H (.tup ds) (.ref a) := by rw [Rep]; exact ⟨a, xs, rfl, h, r⟩
theorem ZaE {H : Hp} : Reps H [] [] := by rw [Reps]
theorem Zap {H : Hp} {d : D} {ds : List D} {v : V} {vs : List V} (h : Rep H d v) (r : Reps H ds vs) : Reps H (d :: ds) (v :: vs) := by rw [Reps]; exact ⟨v, vs, rfl, h, r⟩
theorem ZaL {H : Hp} {i : Int} {v : V} (h : Rep H (.int i) v) : v = .int i := by rwa [Rep] at h
theorem Zaz {H : Hp} {v : V} {ds : List D} (h : Rep H (.tup ds) v) : ∃ a xs, v = .ref a /\ H a = some (.tup xs) /\ Reps H ds xs := by rwa [Rep] at h
theorem Zbe {H : Hp} {vs : List V} (h : Reps H [] vs) : vs = [] := by rwa [Reps] at h
theorem Zat {H : Hp} {d : D} {ds : List D} {vs : List V} (h : Reps H (d :: ds) vs) : ∃ v r, vs = v :: r /\ Rep H d v /\ Reps H ds r := by rwa [Reps] at h
theorem Reps.length {H : Hp} : ∀ {ds : List D} {vs : List V}, Reps H ds vs -> ds.length = vs.length
  | [], vs, h => by rw [Zbe h]; rfl
  | d :: ds, vs, h => by
    obtain ⟨v, r, rfl, _, h2⟩ := Zat h
    simp [Reps.length h2]
theorem Reps.get {H : Hp} : ∀ {ds : List D} {vs : List V} {i : Nat} {d : D}, Reps H ds vs -> ds[i]? = some d -> ∃ v, vs[i]? = some v /\ Rep H d v
  | [], vs, i, d, h, e => by simp at e
  | d :: ds, vs, 0, d', h, e => by
    obtain ⟨v, r, rfl, h1, h2⟩ := Zat h
    simp at e; subst e
    exact ⟨v, rfl, h1⟩
  | d :: ds, vs, i + 1, d', h, e => by
    obtain ⟨v, r, rfl, h1, h2⟩ := Zat h
    obtain ⟨u, e1, e2⟩ := Reps.get (i := i) (d := d') h2 (by simpa using e)
    exact ⟨u, by simpa using e1, e2⟩
theorem Reps.get' {H : Hp} {ds : List D} {vs : List V} {i : Nat} {v : V} (h : Reps H ds vs) (e : vs[i]? = some v) : ∃ d, ds[i]? = some d /\ Rep H d v := by
 have hl := h.length
 have hi : i < vs.length := (List.getElem?_eq_some_iff.mp e).1
 obtain ⟨u, e1, e2⟩ := h.get (i := i) (d := ds[i]'(by lia)) (List.getElem?_eq_getElem (by lia))
 rw [e] at e1; cases e1
 exact ⟨_, List.getElem?_eq_getElem (by lia), e2⟩
theorem Reps.append {H : Hp} : ∀ {ds es : List D} {vs ws : List V}, Reps H ds vs -> Reps H es ws -> Reps H (ds ++ es) (vs ++ ws)
  | [], es, vs, ws, h, r => by rw [Zbe h]; exact r
  | d :: ds, es, vs, ws, h, r => by
    obtain ⟨v, q, rfl, h1, h2⟩ := Zat h
    exact Zap h1 (Reps.append h2 r)
theorem Zd8 {H : Hp} : ∀ {ns : List Int} {vs : List V}, Reps H (ns.map D.int) vs -> vs = ns.map V.int
  | [], vs, h => Zbe h
  | n :: ns, vs, h => by
    obtain ⟨v, r, rfl, h1, h2⟩ := Zat h
    rw [ZaL h1, Zd8 h2]
    rfl
mutual
noncomputable def D.pl : D -> Bool
 | .bl _ => false
 | .tup ds => D.pls ds
 | _ => true
noncomputable def D.pls : List D -> Bool
 | [] => true
 | d :: ds => d.pl && D.pls ds
end
mutual
noncomputable def D.dep : D -> Nat
 | .tup ds => D.deps ds + 1
 | _ => 0
noncomputable def D.deps : List D -> Nat
 | [] => 0
 | d :: ds => max d.dep (D.deps ds)
end
theorem D.pls_get : ∀ {ds : List D} {i : Nat} {d : D}, D.pls ds = true -> ds[i]? = some d -> d.pl = true
  | [], i, d, _, e => by simp at e
  | d :: ds, 0, d', h, e => by
    simp at e; subst e
    rw [D.pls, Bool.and_eq_true] at h
    exact h.1
  | d :: ds, i + 1, d', h, e => by
    rw [D.pls, Bool.and_eq_true] at h
    exact D.pls_get (i := i) h.2 (by simpa using e)
theorem D.deps_get : ∀ {ds : List D} {i : Nat} {d : D}, ds[i]? = some d -> d.dep <= D.deps ds
  | [], i, d, e => by simp at e
  | d :: ds, 0, d', e => by
    simp at e; subst e
    rw [D.deps]; lia
  | d :: ds, i + 1, d', e => by
    have := D.deps_get (ds := ds) (i := i) (d := d') (by simpa using e)
    rw [D.deps]; lia
open Classical in
noncomputable def eqD (d e : D) : Bool := decide (d = e)
theorem eqD_true {d e : D} : eqD d e = true ↔ d = e := by unfold eqD; simp
theorem Zb4 {d : D} : eqD d d = true := eqD_true.mpr rfl
theorem ZaP {d e : D} (h : d ≠ e) : eqD d e = false := by unfold eqD; simp [h]
theorem ZmK {i j : Int} : eqD (.int i) (.int j) = (i == j) := by
 by_cases h : i = j
 ·subst h; rw [Zb4]; simp
 ·rw [ZaP (by intro z; cases z; exact h rfl)]; simp [h]
theorem ZmJ {i j : Str} : eqD (.str i) (.str j) = (i == j) := by
 by_cases h : i = j
 ·subst h; rw [Zb4]; simp
 ·rw [ZaP (by intro z; cases z; exact h rfl)]; simp [h]
noncomputable def Zex (ds es : List D) (f : D -> D -> Bool) (j : Nat) : Bool := match ds[j]?, es[j]? with | some a, some b => f a b | _, _ => false
theorem Ze8 {ds es : List D} : ((List.range (min ds.length es.length)).all (Zex ds es eqD) && ds.length == es.length) = eqD (.tup ds) (.tup es) := by
 by_cases h : ds = es
 ·subst h
  rw [Zb4]
  simp only [beq_self_eq_true, Bool.and_true, List.all_eq_true, List.mem_range]
  intro j hj
  have hj : j < ds.length := by lia
  unfold Zex
  rw [List.getElem?_eq_getElem hj]
  exact Zb4
 ·rw [ZaP (by intro z; cases z; exact h rfl)]
  by_cases hl : ds.length = es.length
  ·rw [Bool.and_eq_false_iff]
   left
   rw [<- Bool.not_eq_true]
   intro hall
   apply h
   refine List.ext_getElem? fun j => ?_
   by_cases hj : j < ds.length
   ·have hj' : j < es.length := by lia
    have := List.all_eq_true.mp hall j (List.mem_range.mpr (by lia))
    unfold Zex at this
    rw [List.getElem?_eq_getElem hj, List.getElem?_eq_getElem hj'] at this
    rw [List.getElem?_eq_getElem hj, List.getElem?_eq_getElem hj', eqD_true.mp this]
   ·rw [List.getElem?_eq_none (by lia), List.getElem?_eq_none (by lia)]
  ·rw [Bool.and_eq_false_iff]
   right
   simpa using hl
section
variable {X : Cx} {pins : List (Addr × Obj)} {σ : St} {H : Hp} {s : Shared}
theorem Inv.isTup (I : Inv X pins σ H s) {a : Addr} {xs : List V} (h : H a = some (.tup xs)) : ∃ its : List Value, Vals xs its /\ s.heap.IsTuple a its.toArray := by
 obtain ⟨_, its, r, p⟩ := (show ObjOk X.prog X.w H s.heap a (.tup xs) from I.hok a _ h)
 exact ⟨its, r, p⟩
theorem ZfG (I : Inv X pins σ H s) {d e : D} {x y : V} {u v : Value} {A : Around} (hd : d.dep = 0) (pd : d.pl = true) (pe : e.pl = true) (rd : Rep H d x) (re : Rep H e y) (ru : RelV x u) (rv : RelV y v) (hu : A.units < cLine) : SeqAt.EqAt A s u v (eqD d e) := by
  cases d with
  | tup ds => rw [D.dep] at hd; lia
  | bl b => simp [D.pl] at pd
  | non =>
    rw [Rep] at rd; subst rd; cases ru
    cases e with
    | bl b => simp [D.pl] at pe
    | non => rw [Rep] at re; subst re; cases rv; rw [Zb4]; exact SeqAt.EqAt.same _
    | int b => rw [Rep] at re; subst re; obtain ⟨t, rfl⟩ := rv; rw [ZaP (by intro z; cases z)]; exact SeqAt.EqAt.none_int b t
    | str b => rw [Rep] at re; subst re; obtain ⟨t, rfl⟩ := rv; rw [ZaP (by intro z; cases z)]; exact SeqAt.EqAt.none_str b t
    | tup es =>
      rw [Rep] at re
      obtain ⟨a, xs, rfl, ha, _⟩ := re
      cases rv
      obtain ⟨its, _, ht⟩ := I.isTup ha
      rw [ZaP (by intro z; cases z)]
      exact SeqAt.EqAt.none_tuple ht hu
  | int i =>
    rw [Rep] at rd; subst rd; obtain ⟨t, rfl⟩ := ru
    cases e with
    | bl b => simp [D.pl] at pe
    | non => rw [Rep] at re; subst re; cases rv; rw [ZaP (by intro z; cases z)]; exact SeqAt.EqAt.int_none i t
    | int b => rw [Rep] at re; subst re; obtain ⟨t', rfl⟩ := rv; rw [ZmK]; exact SeqAt.EqAt.int_int i t b t'
    | str b => rw [Rep] at re; subst re; obtain ⟨t', rfl⟩ := rv; rw [ZaP (by intro z; cases z)]; exact SeqAt.EqAt.int_str i t b t'
    | tup es =>
      rw [Rep] at re
      obtain ⟨a, xs, rfl, ha, _⟩ := re
      cases rv
      obtain ⟨its, _, ht⟩ := I.isTup ha
      rw [ZaP (by intro z; cases z)]
      exact SeqAt.EqAt.int_tuple i t ht hu
  | str i =>
    rw [Rep] at rd; subst rd; obtain ⟨t, rfl⟩ := ru
    cases e with
    | bl b => simp [D.pl] at pe
    | non => rw [Rep] at re; subst re; cases rv; rw [ZaP (by intro z; cases z)]; exact SeqAt.EqAt.str_none i t
    | int b => rw [Rep] at re; subst re; obtain ⟨t', rfl⟩ := rv; rw [ZaP (by intro z; cases z)]; exact SeqAt.EqAt.str_int i t b t'
    | str b => rw [Rep] at re; subst re; obtain ⟨t', rfl⟩ := rv; rw [ZmJ]; exact SeqAt.EqAt.str_str i t b t'
    | tup es =>
      rw [Rep] at re
      obtain ⟨a, xs, rfl, ha, _⟩ := re
      cases rv
      obtain ⟨its, _, ht⟩ := I.isTup ha
      rw [ZaP (by intro z; cases z)]
      exact SeqAt.EqAt.str_tuple i t ht hu
mutual
theorem Rep.inj {H : Hp} : ∀ {d e : D} {v : V}, Rep H d v -> Rep H e v -> d = e
  | .non, .non, _, _, _ => rfl
  | .bl a, .bl b, v, h, h' => by simp only [Rep] at h h'; rw [h] at h'; cases h'; rfl
  | .int a, .int b, v, h, h' => by simp only [Rep] at h h'; rw [h] at h'; cases h'; rfl
  | .str a, .str b, v, h, h' => by simp only [Rep] at h h'; rw [h] at h'; cases h'; rfl
  | .tup ds, .tup es, v, h, h' => by
    rw [Rep] at h h'
    obtain ⟨a, xs, rfl, ha, r⟩ := h
    obtain ⟨b, ys, e, hb, r'⟩ := h'
    cases e
    rw [ha] at hb; cases hb
    rw [Reps.inj r r']
  | .non, .bl _, v, h, h' => by simp only [Rep] at h h'; rw [h] at h'; cases h'
  | .non, .int _, v, h, h' => by simp only [Rep] at h h'; rw [h] at h'; cases h'
  | .non, .str _, v, h, h' => by simp only [Rep] at h h'; rw [h] at h'; cases h'
  | .non, .tup _, v, h, h' => by simp only [Rep] at h h'; obtain ⟨_, _, e, _⟩ := h'; rw [h] at e; cases e
  | .bl _, .non, v, h, h' => by simp only [Rep] at h h'; rw [h] at h'; cases h'
  | .bl _, .int _, v, h, h' => by simp only [Rep] at h h'; rw [h] at h'; cases h'
  | .bl _, .str _, v, h, h' => by simp only [Rep] at h h'; rw [h] at h'; cases h'
  | .bl _, .tup _, v, h, h' => by simp only [Rep] at h h'; obtain ⟨_, _, e, _⟩ := h'; rw [h] at e; cases e
  | .int _, .non, v, h, h' => by simp only [Rep] at h h'; rw [h] at h'; cases h'
  | .int _, .bl _, v, h, h' => by simp only [Rep] at h h'; rw [h] at h'; cases h'
  | .int _, .str _, v, h, h' => by simp only [Rep] at h h'; rw [h] at h'; cases h'
  | .int _, .tup _, v, h, h' => by simp only [Rep] at h h'; obtain ⟨_, _, e, _⟩ := h'; rw [h] at e; cases e
  | .str _, .non, v, h, h' => by simp only [Rep] at h h'; rw [h] at h'; cases h'
  | .str _, .bl _, v, h, h' => by simp only [Rep] at h h'; rw [h] at h'; cases h'
  | .str _, .int _, v, h, h' => by simp only [Rep] at h h'; rw [h] at h'; cases h'
  | .str _, .tup _, v, h, h' => by simp only [Rep] at h h'; obtain ⟨_, _, e, _⟩ := h'; rw [h] at e; cases e
  | .tup _, .non, v, h, h' => by simp only [Rep] at h h'; obtain ⟨_, _, e, _⟩ := h; rw [h'] at e; cases e
  | .tup _, .bl _, v, h, h' => by simp only [Rep] at h h'; obtain ⟨_, _, e, _⟩ := h; rw [h'] at e; cases e
  | .tup _, .int _, v, h, h' => by simp only [Rep] at h h'; obtain ⟨_, _, e, _⟩ := h; rw [h'] at e; cases e
  | .tup _, .str _, v, h, h' => by simp only [Rep] at h h'; obtain ⟨_, _, e, _⟩ := h; rw [h'] at e; cases e
theorem Reps.inj {H : Hp} : ∀ {ds es : List D} {vs : List V}, Reps H ds vs -> Reps H es vs -> ds = es
  | [], [], _, _, _ => rfl
  | [], e :: es, vs, h, h' => by rw [Zbe h] at h'; obtain ⟨_, _, z, _⟩ := Zat h'; cases z
  | d :: ds, [], vs, h, h' => by rw [Zbe h'] at h; obtain ⟨_, _, z, _⟩ := Zat h; cases z
  | d :: ds, e :: es, vs, h, h' => by
    obtain ⟨v, r, rfl, h1, h2⟩ := Zat h
    obtain ⟨v', r', z, h1', h2'⟩ := Zat h'
    cases z
    rw [Rep.inj h1 h1', Reps.inj h2 h2']
end
theorem eqAt_D (I : Inv X pins σ H s) : ∀ (n : Nat) {d e : D} {x y : V} {u v : Value} {A : Around}, d.dep <= n -> d.pl = true -> e.pl = true -> Rep H d x -> Rep H e y -> RelV x u -> RelV y v -> A.units + n < cLine -> SeqAt.EqAt A s u v (eqD d e) := by
  intro n
  induction n with
  | zero =>
    intro d e x y u v A hn pd pe rd re ru rv hu
    exact ZfG I (by lia) pd pe rd re ru rv (by lia)
  | succ n ih =>
    intro d e x y u v A hn pd pe rd re ru rv hu
    by_cases h0 : d.dep = 0
    · exact ZfG I h0 pd pe rd re ru rv (by lia)
    · cases d with
      | non => simp [D.dep] at h0
      | bl _ => simp [D.dep] at h0
      | int _ => simp [D.dep] at h0
      | str _ => simp [D.dep] at h0
      | tup ds =>
        obtain ⟨a, xs, rfl, ha, r⟩ := Zaz rd
        cases ru
        obtain ⟨its, vx, ht⟩ := I.isTup ha
        cases e with
        | bl b => simp [D.pl] at pe
        | non => rw [Rep] at re; subst re; cases rv; rw [ZaP (by intro z; cases z)]; exact SeqAt.EqAt.tuple_none ht (by lia)
        | int b => rw [Rep] at re; subst re; obtain ⟨t, rfl⟩ := rv; rw [ZaP (by intro z; cases z)]; exact SeqAt.EqAt.tuple_int b t ht (by lia)
        | str b => rw [Rep] at re; subst re; obtain ⟨t, rfl⟩ := rv; rw [ZaP (by intro z; cases z)]; exact SeqAt.EqAt.tuple_str b t ht (by lia)
        | tup es =>
          obtain ⟨b, ys, rfl, hb, r'⟩ := Zaz re
          cases rv
          by_cases hab : a = b
          · subst hab
            rw [Rep.inj rd re, Zb4]
            exact SeqAt.EqAt.same _
          · obtain ⟨its', vy, ht'⟩ := I.isTup hb
            refine SeqAt.EqAt.of_refs hab ?_
            have l1 := vx.length
            have l2 := vy.length
            have l3 := r.length
            have l4 := r'.length
            have key := SeqAt.RcAt.tuples (A := A) (e := Zex ds es eqD) ht ht' (by lia) fun j h1 h2 => ?_
            · rw [<- Ze8, l3, l4, l1, l2]
              simpa using key
            · have h1' : j < its.length := by simpa using h1
              have h2' : j < its'.length := by simpa using h2
              have e1 : ds[j]? = some (ds[j]'(by lia)) := List.getElem?_eq_getElem _
              have e2 : es[j]? = some (es[j]'(by lia)) := List.getElem?_eq_getElem _
              obtain ⟨v1, q1, p1⟩ := r.get e1
              obtain ⟨v2, q2, p2⟩ := r'.get e2
              obtain ⟨u1, z1, w1⟩ := vx.get q1
              obtain ⟨u2, z2, w2⟩ := vy.get q2
              have y1 : its.toArray[j] = u1 := by
                have : its[j]? = some its[j] := List.getElem?_eq_getElem h1'
                rw [z1] at this
                simpa using (Option.some.inj this).symm
              have y2 : its'.toArray[j] = u2 := by
                have : its'[j]? = some its'[j] := List.getElem?_eq_getElem h2'
                rw [z2] at this
                simpa using (Option.some.inj this).symm
              rw [y1, y2]
              unfold Zex
              rw [e1, e2]
              rw [D.dep] at hn
              have hdep := D.deps_get e1
              rw [D.pl] at pd pe
              exact ih (by lia) (D.pls_get pd e1) (D.pls_get pe e2) p1 p2 w1 w2 (by show A.units + 1 + n < cLine; lia)
end
end L2
end
section
namespace L2
open PySem PySem.Spec PyProof.Rows
section
variable {X : Cx}
noncomputable def rEqD : R2 := fun x y H Q => ∃ ds es, Rep H (.tup ds) x /\ Rep H (.tup es) y /\ D.pls ds = true /\ D.pls es = true /\ D.deps ds <= 40 /\ Q (.bl (eqD (.tup ds) (.tup es))) H
theorem Ze4 {X : Cx} {pins : List (Addr × Obj)} {σ : St} {H : Hp} {s : Shared} {A : Around} (I : Inv X pins σ H s) {ds es : List D} {xs ys : List V} {its its' : List Value} (vx : Vals xs its) (vy : Vals ys its') (r : Reps H ds xs) (r' : Reps H es ys) (pd : D.pls ds = true) (pe : D.pls es = true)
  (hd : D.deps ds <= 40) (hu : A.units + 40 < cLine) : ∀ j (h1 : j < its.toArray.size) (h2 : j < its'.toArray.size), SeqAt.EqAt A s its.toArray[j] its'.toArray[j] (Zex ds es eqD j) := by
 intro j h1 h2
 have l1 := vx.length
 have l2 := vy.length
 have l3 := r.length
 have l4 := r'.length
 have h1' : j < its.length := by simpa using h1
 have h2' : j < its'.length := by simpa using h2
 have e1 : ds[j]? = some (ds[j]'(by lia)) := List.getElem?_eq_getElem _
 have e2 : es[j]? = some (es[j]'(by lia)) := List.getElem?_eq_getElem _
 obtain ⟨v1, q1, p1⟩ := r.get e1
 obtain ⟨v2, q2, p2⟩ := r'.get e2
 obtain ⟨u1, z1, w1⟩ := vx.get q1
 obtain ⟨u2, z2, w2⟩ := vy.get q2
 have y1 : its.toArray[j] = u1 := by
  have : its[j]? = some its[j] := List.getElem?_eq_getElem h1'
  rw [z1] at this
  simpa using (Option.some.inj this).symm
 have y2 : its'.toArray[j] = u2 := by
  have : its'[j]? = some its'[j] := List.getElem?_eq_getElem h2'
  rw [z2] at this
  simpa using (Option.some.inj this).symm
 rw [y1, y2]
 unfold Zex
 rw [e1, e2]
 have hdep := D.deps_get e1
 exact eqAt_D I 40 (by lia) (D.pls_get pd e1) (D.pls_get pe e2) p1 p2 w1 w2 hu
theorem op_eqD (hu : X.A.units + 64 < cLine) : OpR X (compareOp .Eq) rEqD := by
 rintro pins s σ H x y v u Q I rx ry ⟨ds, es, h1, h2, pd, pe, hd, q⟩
 obtain ⟨a, xs, rfl, ha, r⟩ := Zaz h1
 obtain ⟨b, ys, rfl, hb, r'⟩ := Zaz h2
 cases rx; cases ry
 obtain ⟨its, vx, ht⟩ := I.isTup ha
 obtain ⟨its', vy, ht'⟩ := I.isTup hb
 refine SeqAt.eq_tupleAt (e := Zex ds es eqD) ht ht' (by lia) (Ze4 (A := X.A.in1) I vx vy r r' pd pe hd (by show X.A.units + 1 + 40 < cLine; lia)) ?_
 refine ZaU I q ?_
 rw [<- Ze8, r.length, r'.length, vx.length, vy.length]
 simp
noncomputable def rEqL (K : PySem.W.Frag) : R2 := fun x y H Q => ∃ a b xs ys ds es, x = .ref a /\ y = .ref b /\ SqL K H a xs /\ SqL K H b ys /\ Reps H ds xs /\ Reps H es ys /\ D.pls ds = true /\ D.pls es = true /\ D.deps ds <= 40 /\ Q (.bl (eqD (.tup ds) (.tup es))) H
noncomputable def rNeL (K : PySem.W.Frag) : R2 := fun x y H Q => ∃ a b xs ys ds es, x = .ref a /\ y = .ref b /\ SqL K H a xs /\ SqL K H b ys /\ Reps H ds xs /\ Reps H es ys /\ D.pls ds = true /\ D.pls es = true /\ D.deps ds <= 40 /\ Q (.bl (!eqD (.tup ds) (.tup es))) H
theorem op_eqL (hu : X.A.units + 64 < cLine) : OpR X (compareOp .Eq) (rEqL X.K) := by
 rintro pins s σ H x y v u Q I rx ry ⟨a, b, xs, ys, ds, es, rfl, rfl, ha, hb, r, r', pd, pe, hd, q⟩
 cases rx; cases ry
 obtain ⟨its, vx, ht, _⟩ := I.list ha
 obtain ⟨its', vy, ht', _⟩ := I.list hb
 by_cases hl : its.length = its'.length
 ·refine SeqAt.eq_listAt (e := Zex ds es eqD) ht.isList ht'.isList (by simpa using hl) (by lia) (Ze4 (A := X.A.in1) I vx vy r r' pd pe hd (by show X.A.units + 1 + 40 < cLine; lia)) ?_
  refine ZaU I q ?_
  rw [<- Ze8, r.length, r'.length, vx.length, vy.length, hl]
  simp [hl]
 ·refine SeqAt.eq_list_lengthsAt ht.isList ht'.isList (by simpa using hl) (by lia) (ZaU I q ?_)
  refine ZaP fun z => hl ?_
  cases z
  rw [<- vx.length, <- vy.length, <- r.length, <- r'.length]
theorem op_neL (hu : X.A.units + 64 < cLine) : OpR X (compareOp .NotEq) (rNeL X.K) := by
 rintro pins s σ H x y v u Q I rx ry ⟨a, b, xs, ys, ds, es, rfl, rfl, ha, hb, r, r', pd, pe, hd, q⟩
 cases rx; cases ry
 obtain ⟨its, vx, ht, _⟩ := I.list ha
 obtain ⟨its', vy, ht', _⟩ := I.list hb
 by_cases hl : its.length = its'.length
 ·refine SeqAt.RcNeAt.lists (e := Zex ds es eqD) ht.isList ht'.isList (by simpa using hl) (by lia) (Ze4 (A := X.A.in1) I vx vy r r' pd pe hd (by show X.A.units + 1 + 40 < cLine; lia)) _ _ _ _ ?_
  refine ZaU I q ?_
  rw [<- Ze8, r.length, r'.length, vx.length, vy.length, hl]
  simp [hl]
 ·refine SeqAt.RcNeAt.lists_lengths ht.isList ht'.isList (by simpa using hl) (by lia) _ _ _ _ (ZaU I q ?_)
  rw [ZaP fun z => hl ?_]
  ·rfl
  ·cases z
   rw [<- vx.length, <- vy.length, <- r.length, <- r'.length]
theorem ZiP : OpR X (compareOp .IsNot) (fun x y H Q => ∃ a b, x = .bl a /\ y = .bl b /\ Q (.bl (a != b)) H) := by
 rintro pins s σ H x y v u Q I rx ry ⟨a, b, rfl, rfl, q⟩
 cases rx; cases ry
 exact isnot_bool ⟨.bl _, H, I, rfl, q⟩
noncomputable def CBig (i j : Int) : Prop := i.natAbs < 2 ^ 8000 /\ j.natAbs < 2 ^ 8000
theorem Zhi {i : Int} (h : i.natAbs < 2 ^ 8000) : Builtin.Int.intBits i <= 8000 := by
 unfold Builtin.Int.intBits
 by_cases h0 : i = 0
 ·simp [h0]
 ·have : (i == 0) = false := by simpa using h0
  rw [this]
  have := (Nat.log2_lt (show i.natAbs ≠ 0 by lia)).mpr h
  simp
  lia
theorem CBig.ok {i j : Int} (h : CBig i j) : IntMulOk i j := by
 unfold IntMulOk
 have h1 := Zhi h.1
 have h2 := Zhi h.2
 have hb : Builtin.Int.intTooBig (Builtin.Int.intBits i + Builtin.Int.intBits j) = false := by
  unfold Builtin.Int.intTooBig
  rw [decide_eq_false]
  have : (16000 : Int) <= bitsLine := by decide
  lia
 rw [hb]
 simp
theorem ZiM : OpR X (binaryOp .Mult) (rI CBig fun i j => .int (i * j)) := opI fun _ _ _ _ _ _ _ hc q => mul_int q hc.ok
noncomputable def ZmY (i j : Int) : Prop := 0 < j /\ j.natAbs < 2 ^ 8000
theorem ZdW : OpR X (binaryOp .FloorDiv) (rI ZmY fun i j => .int (i / j)) := opI fun i j _ _ _ _ _ hc q => by
 have hj : j ≠ 0 := by have := hc.1; lia
 refine floordiv_int hj ?_ (.inl (PyProof.noPylong_of_log2 ?_))
 ·rw [Int.fdiv_eq_ediv_of_nonneg _ (by have := hc.1; lia)]
  exact q
 ·have := (Nat.log2_lt (show j.natAbs ≠ 0 by lia)).mpr hc.2
  lia
noncomputable def isi (t T : String) : Bool := t == T || (t == "bool" && T == "int")
theorem kit_of {K : PySem.W.Frag} : ∀ {t T : String}, t ∈ ["int", "bool", "str", "tuple", "list", "dict", "NoneType"] -> T ∈ ["int", "bool", "str", "tuple", "list", "dict"] -> PySem.W.kitOne K (.type t) (.type T) = some (isi t T) := by
 intro t T ht hT
 simp only [List.mem_cons, List.mem_nil_iff, or_false] at ht hT
 rcases ht with rfl | rfl | rfl | rfl | rfl | rfl | rfl <;> rcases hT with rfl | rfl | rfl | rfl | rfl | rfl <;> with_unfolding_all rfl
noncomputable def tyO : Option HO -> Option String
 | some (.lst _) => some "list"
 | some (.frz _ (.lst _)) => some "list"
 | some (.tup _) => some "tuple"
 | some (.dK _) => some "dict"
 | some (.dT _) => some "dict"
 | _ => none
noncomputable def tyN (H : Hp) : V -> Option String
 | .non => some "NoneType"
 | .bl _ => some "bool"
 | .int _ => some "int"
 | .str _ => some "str"
 | .ref a => tyO (H a)
 | _ => none
theorem tyN_of {K : PySem.W.Frag} {H : Hp} {x : V} {t : String} (h : tyN H x = some t) : TyOf K H x (.type t) /\ t ∈ ["int", "bool", "str", "tuple", "list", "dict", "NoneType"] := by
  cases x with
  | non => cases h; exact ⟨.non, by decide⟩
  | bl b => cases h; exact ⟨.bl b, by decide⟩
  | int i => cases h; exact ⟨.int i, by decide⟩
  | str y => cases h; exact ⟨.str y, by decide⟩
  | ref a =>
    have h : tyO (H a) = some t := h
    cases e : H a with
    | none => rw [e] at h; cases h
    | some o =>
      rw [e] at h
      cases o with
      | lst _ => cases h; exact ⟨.lst e, by decide⟩
      | frz _ o =>
        cases o with
        | lst _ => cases h; exact ⟨.frz e, by decide⟩
        | _ => cases h
      | tup _ => cases h; exact ⟨.tup e, by decide⟩
      | dK _ => cases h; exact ⟨.dK e, by decide⟩
      | dT _ => cases h; exact ⟨.dT e, by decide⟩
      | _ => cases h
  | byt _ => cases h
  | flt _ => cases h
  | ty _ => cases h
noncomputable def rIsi : List V -> Hp -> VK -> Prop := fun xs H Q => ∃ x T t, xs = [x, .ty T] /\ tyN H x = some t /\ T ∈ ["int", "bool", "str", "tuple", "list", "dict"] /\ Q (.bl (isi t T)) H
theorem ZaQ : ZbU X (.builtin "isinstance") rIsi := by
  intro pins s σ H xs us Q I r h
  obtain ⟨x, T, t, rfl, ht, hT, q⟩ := h
  cases r with
  | cons r1 r2 =>
    cases r2 with
    | cons r3 r4 =>
      cases r4
      cases r3
      obtain ⟨ty, hm⟩ := tyN_of (K := X.K) ht
      exact Zjc I r1 ty (kit_of hm hT) fun tk => ⟨.bl _, H, I.tok _, rfl, q⟩
end
structure Callee (P : Program) (w : World) (K : PySem.W.Frag) (mg : Str -> Option Value) (base : Heap) (x : Str) (k : Nat) (ps : List Str) (sp : Sp) : Prop where
 ex : ∃ f fd, FnOk P w K mg base CX0 k f fd ps sp /\ mg x = some (.ref f) /\ PySem.W.keepIn K (.ref f) = true /\ Binds K fd ps []
theorem ZaK {X : Cx} {x : Str} {k : Nat} {ps : List Str} {sp : Sp} {p pos : Pos} {e : Expr} {es : List Expr} {t : TA} (C : Callee X.prog X.w X.K X.mg X.base x k ps sp) (hr : Room k X.A) (hg : Gl X x) (ha : PA X (e :: es) t) (hdb : (x == ("__debug__" : Str)) = false := by decide)
  (he : starEach (e :: es) X.env = (false, eval e X.env) :: starEach es X.env := by rfl) (hpl : (backTo pos (starEach es X.env)).any (·.1) = false := by rfl) :
  PE X (.Call (.Name x p) (e :: es) [] pos) (Zhq sp [] E0 t) := by
 obtain ⟨f, fd, F, hm, hk, hb⟩ := C.ex
 exact Zmj F hr hg hm hk hb .nil pass0 ha hdb he hpl
theorem ZgV {X : Cx} {x : Str} {k : Nat} {ps : List Str} {sp : Sp} {p pos : Pos} (C : Callee X.prog X.w X.K X.mg X.base x k ps sp) (hr : Room k X.A) (hg : Gl X x) (hdb : (x == ("__debug__" : Str)) = false := by decide) :
  PE X (.Call (.Name x p) [] [] pos) (Zhq sp [] E0 tNil) := by
 obtain ⟨f, fd, F, hm, hk, hb⟩ := C.ex
 exact Zkr F hr hg hm hk hb .nil pass0 hdb
section
variable {K : PySem.W.Frag} {a : Addr} {xs : List V} {g : TG} {tt : TT} {te : TE} {Q : VK} {σ : St} {H : Hp}
noncomputable def CN (Pv : Nat -> List V -> St -> Hp -> Prop) (i : Nat) (ys' : List V) (σ' : St) (H' : Hp) : Prop := ys'.length <= i + 1 /\ Pv (i + 1) ys' σ' H'
theorem Zjp {J : It} (n : Nat) (hz : n <= sizeLine) (Pv : Nat -> List V -> St -> Hp -> Prop) (h0 : Pv 0 [] σ H) (hgo : ∀ i ys σ H, i < n -> Pv i ys σ H -> J.go i H) (hstop : ∀ ys σ H, Pv n ys σ H -> J.stop n H)
  (hs : ∀ i x ys σ H H2, i < n -> ys.length <= i -> ys.length < sizeLine -> Pv i ys σ H -> J.yld i H x H2 -> g x σ H2 fun σ2 H3 => tt σ2 H3 fun ok H4 => if ok = true then te σ2 H4 fun y H5 => ys.length < sizeLine /\ CN Pv i (ys ++ [y]) σ2 H5 else CN Pv i ys σ2 H4)
  (hd : ∀ ys σ H, ys.length <= n -> Pv n ys σ H -> ∀ p, H p = none -> Q (.ref p) (upd H p (.lst ys))) :
  ∃ W : Nat -> Nat -> List V -> St -> Hp -> Prop, (∃ m, W 0 m [] σ H) /\ CW J g tt te W Q := by
 refine ⟨fun i m ys σ H => m = n - i /\ i <= n /\ ys.length <= i /\ Pv i ys σ H, ⟨n, by simp, Nat.zero_le _, Nat.le_refl _, h0⟩, ?_⟩
 rintro i m ys σ H ⟨rfl, hi, hy, p⟩
 by_cases hlt : i < n
 ·exact .inr ⟨hgo i ys σ H hlt p, CN Pv i, fun ys' σ' H' p' => ⟨n - (i + 1), by lia, rfl, hlt, p'.1, p'.2⟩, fun x H2 y => hs i x ys σ H H2 hlt hy (by lia) p y⟩
 ·have e : i = n := by lia
  subst e
  exact .inl ⟨hstop ys σ H p, by lia, hd ys σ H hy p⟩
theorem ZcK (hz : xs.length <= sizeLine) (Pv : Nat -> List V -> St -> Hp -> Prop) (h0 : Pv 0 [] σ H) (hl : ∀ i ys σ H, i <= xs.length -> Pv i ys σ H -> SqL K H a xs)
  (hs : ∀ i x ys σ H, xs[i]? = some x -> ys.length <= i -> ys.length < sizeLine -> Pv i ys σ H -> g x σ H fun σ2 H3 => tt σ2 H3 fun ok H4 => if ok = true then te σ2 H4 fun y H5 => ys.length < sizeLine /\ CN Pv i (ys ++ [y]) σ2 H5 else CN Pv i ys σ2 H4)
  (hd : ∀ ys σ H, ys.length <= xs.length -> Pv xs.length ys σ H -> ∀ p, H p = none -> Q (.ref p) (upd H p (.lst ys))) :
  ∃ W : Nat -> Nat -> List V -> St -> Hp -> Prop, (∃ m, W 0 m [] σ H) /\ CW (Itl K a) g tt te W Q := by
 refine Zjp xs.length hz Pv h0 (fun i ys σ H hi p => ⟨xs, xs[i], hl i ys σ H (Nat.le_of_lt hi) p, by simp [hi]⟩) (fun ys σ H p => ⟨xs, hl _ ys σ H (Nat.le_refl _) p, Nat.le_refl _⟩) (fun i x ys σ H H2 hi h1 h2 p y => ?_) hd
 obtain ⟨rfl, y⟩ := y
 exact hs i x ys σ _ (y xs (hl i ys σ _ (Nat.le_of_lt hi) p)) h1 h2 p
theorem Zlp (hz : xs.length <= sizeLine) (Pv : Nat -> List V -> St -> Hp -> Prop) (h0 : Pv 0 [] σ H) (hl : ∀ i ys σ H, i <= xs.length -> Pv i ys σ H -> SqT K H a xs)
  (hs : ∀ i x ys σ H, xs[i]? = some x -> ys.length <= i -> ys.length < sizeLine -> Pv i ys σ H -> g x σ H fun σ2 H3 => tt σ2 H3 fun ok H4 => if ok = true then te σ2 H4 fun y H5 => ys.length < sizeLine /\ CN Pv i (ys ++ [y]) σ2 H5 else CN Pv i ys σ2 H4)
  (hd : ∀ ys σ H, ys.length <= xs.length -> Pv xs.length ys σ H -> ∀ p, H p = none -> Q (.ref p) (upd H p (.lst ys))) :
  ∃ W : Nat -> Nat -> List V -> St -> Hp -> Prop, (∃ m, W 0 m [] σ H) /\ CW (Itt K a) g tt te W Q := by
 refine Zjp xs.length hz Pv h0 (fun i ys σ H hi p => ⟨xs, xs[i], hl i ys σ H (Nat.le_of_lt hi) p, by simp [hi]⟩) (fun ys σ H p => ⟨xs, hl _ ys σ H (Nat.le_refl _) p, Nat.le_refl _⟩) (fun i x ys σ H H2 hi h1 h2 p y => ?_) hd
 obtain ⟨rfl, y⟩ := y
 exact hs i x ys σ _ (y xs (hl i ys σ _ (Nat.le_of_lt hi) p)) h1 h2 p
theorem Zfc {lo : Int} {n : Nat} (hz : n <= sizeLine) (Pv : Nat -> List V -> St -> Hp -> Prop) (h0 : Pv 0 [] σ H)
  (hs : ∀ i ys σ H, i < n -> ys.length <= i -> ys.length < sizeLine -> Pv i ys σ H -> g (.int (lo + i)) σ H fun σ2 H3 => tt σ2 H3 fun ok H4 => if ok = true then te σ2 H4 fun y H5 => ys.length < sizeLine /\ CN Pv i (ys ++ [y]) σ2 H5 else CN Pv i ys σ2 H4)
  (hd : ∀ ys σ H, ys.length <= n -> Pv n ys σ H -> ∀ p, H p = none -> Q (.ref p) (upd H p (.lst ys))) :
  ∃ W : Nat -> Nat -> List V -> St -> Hp -> Prop, (∃ m, W 0 m [] σ H) /\ CW (Itr lo n) g tt te W Q := by
 refine Zjp n hz Pv h0 (fun i ys σ H hi p => hi) (fun ys σ H p => Nat.le_refl _) (fun i x ys σ H H2 hi h1 h2 p y => ?_) hd
 obtain ⟨rfl, rfl⟩ := y
 exact hs i ys σ _ hi h1 h2 p
end
end L2
end
section
namespace L2
open PySem PySem.Spec PyProof.Rows
section
variable {σ : St} {H : Hp} {Q : VK} {v x y : V} {ta tb tc te : TE} {t u : TS} {c d : TT} {D' : Ends} {r : R2} {g : TG} {i j : Int} {n : Nat} {K : PySem.W.Frag}
theorem rd_var (e : σ[n]? = some (some v)) (h : Q v H) : tVar n σ H Q := ⟨v, e, h⟩
theorem rd_c (h : Q v H) : tC v σ H Q := h
theorem rd_op (h : ta σ H fun x H1 => tb σ H1 fun y H2 => r x y H2 Q) : tOp r ta tb σ H Q := h
theorem rd_un {r : V -> Hp -> VK -> Prop} (h : ta σ H fun x H1 => r x H1 Q) : tUn r ta σ H Q := h
theorem Zk7 (h : t { D' with nx := u D' } σ H) : tSeq t u D' σ H := h
theorem Zix (h : te σ H fun x H1 => g x σ H1 D'.nx) : tAsg te g D' σ H := h
theorem ZcN {R : St -> Hp -> Prop} (h : R (σ.set n (some v)) H) : ZdQ n v σ H R := h
theorem Zk8 (h : te σ H D'.rt) : tRet te D' σ H := h
theorem Zl5 (h : te σ H fun _ H1 => D'.nx σ H1) : tDrop te D' σ H := h
theorem Zf5 (h : D'.nx σ H) : ZjW D' σ H := h
theorem rd_if (h : c σ H fun b H1 => if b = true then t D' σ H1 else u D' σ H1) : tIfS c t u D' σ H := h
theorem ZlJ {R : Bool -> Hp -> Prop} (h : ta σ H fun x H' => ∃ k, x = .bl k /\ R k H') : Zhp ta σ H R := h
theorem rd_tb {R : Bool -> Hp -> Prop} (h : ta σ H fun x H' => ∃ k, x = .bl k /\ R k H') : tB ta σ H R := h
theorem rd_and {R : Bool -> Hp -> Prop} (h : c σ H fun b H1 => if b = true then d σ H1 R else R false H1) : tAnd c d σ H R := h
theorem rd_or {R : Bool -> Hp -> Prop} (h : c σ H fun b H1 => if b = true then R true H1 else d σ H1 R) : tOr c d σ H R := h
theorem rd_not {R : Bool -> Hp -> Prop} (h : c σ H fun b H1 => R (!b) H1) : tNot c σ H R := h
theorem ZlI {R : Bool -> Hp -> Prop} (h : R true H) : tTrue σ H R := h
theorem Zl9 (h : ta σ H fun x H1 => ∃ c, x = .bl c /\ if c = true then tb σ H1 Q else Q (.bl false) H1) : tAndV ta tb σ H Q := h
theorem rd_orV (h : ta σ H fun x H1 => ∃ c, x = .bl c /\ if c = true then Q (.bl true) H1 else tb σ H1 Q) : tOrV ta tb σ H Q := h
theorem ZlU (h : ta σ H fun x H1 => ∃ c, x = .bl c /\ Q (.bl (!c)) H1) : tNotV ta σ H Q := h
theorem rd_ifE (h : c σ H fun b H1 => if b = true then ta σ H1 Q else tb σ H1 Q) : tIf c ta tb σ H Q := h
theorem Zkg {r r' : R2} (h : ta σ H fun x H1 => tb σ H1 fun y H2 => r x y H2 fun z H3 => ∃ k, z = .bl k /\ (if k = true then tc σ H3 fun w' H4 => r' y w' H4 Q else Q (.bl false) H3)) : Zh5 r r' ta tb tc σ H Q := h
theorem rd_nil {R : List V -> Hp -> Prop} (h : R [] H) : tNil σ H R := h
theorem Zl7 {tr : TA} {R : List V -> Hp -> Prop} (h : ta σ H fun x H1 => tr σ H1 fun xs H2 => R (x :: xs) H2) : Zcj ta tr σ H R := h
theorem rd_cb {rr : List V -> Hp -> VK -> Prop} {ta : TA} (h : ta σ H fun vs H1 => rr vs H1 Q) : tCB rr ta σ H Q := h
theorem Zma {f : Int -> Int -> V} (h : Q (f i j) H) : rI0 f (.int i) (.int j) H Q := ⟨i, j, rfl, rfl, h⟩
theorem rd_I {C : Int -> Int -> Prop} {f : Int -> Int -> V} (hc : C i j) (h : Q (f i j) H) : rI C f (.int i) (.int j) H Q := ⟨i, j, rfl, rfl, hc, h⟩
theorem rd_U {f : Int -> V} (h : Q (f i) H) : rU f (.int i) H Q := ⟨i, rfl, h⟩
theorem Zlc (h : Q (.bl (decide (i = j))) H) : rEq (.int i) (.int j) H Q := ⟨rfl, by rw [Zfb, Bool.beq_eq_decide_eq]; exact h⟩
theorem Zla (h : Q (.bl (!decide (i = j))) H) : rNe (.int i) (.int j) H Q := ⟨rfl, by rw [Zfb, Bool.beq_eq_decide_eq]; exact h⟩
theorem Zlb {a b : Str} (h : Q (.bl (decide (a = b))) H) : rEq (.str a) (.str b) H Q := ⟨rfl, by rw [Zfa, Bool.beq_eq_decide_eq]; exact h⟩
theorem Zk9 {a b : Str} (h : Q (.bl (!decide (a = b))) H) : rNe (.str a) (.str b) H Q := ⟨rfl, by rw [Zfa, Bool.beq_eq_decide_eq]; exact h⟩
theorem rd_neB {a b : Bool} (h : Q (.bl (!decide (a = b))) H) : rNe (.bl a) (.bl b) H Q := ⟨rfl, by rw [Zjn, Bool.beq_eq_decide_eq]; exact h⟩
theorem ZbG {b : Bool} {R : Bool -> Prop} (h : R b) : ∃ k, V.bl b = V.bl k /\ R k := ⟨b, rfl, h⟩
theorem rd_tup {ta : TA} (h : ta σ H fun xs H1 => xs.length <= sizeLine /\ ∀ p, H1 p = none -> Q (.ref p) (upd H1 p (.tup xs))) : tTup ta σ H Q := h
theorem rd_lst {ta : TA} (h : ta σ H fun xs H1 => xs.length <= sizeLine /\ ∀ p, H1 p = none -> Q (.ref p) (upd H1 p (.lst xs))) : tLst ta σ H Q := h
theorem ZcM {n : Nat} (h : n <= 1000) : n <= sizeLine := Nat.le_trans h (by decide)
theorem rd_ixT {p : Addr} {xs : List V} (h : H p = some (.tup xs)) (e : atI xs i = some v) (q : Q v H) : rIxT K (.ref p) (.int i) H Q := ⟨p, xs, i, v, rfl, rfl, SqT.of h, e, q⟩
theorem rd_ixL {p : Addr} {xs : List V} (h : H p = some (.lst xs)) (e : atI xs i = some v) (q : Q v H) : rIxL K (.ref p) (.int i) H Q := ⟨p, xs, i, v, rfl, rfl, SqL.of h, e, q⟩
theorem Zd9 {p : Addr} {xs : List V} {k : Nat} {R : Hp -> Prop} (h : H p = some (.lst xs)) (e : ixN xs.length i = some k) (q : R (upd H p (.lst (xs.set k v)))) : Zmc (.ref p) (.int i) v H R := ⟨p, xs, i, k, rfl, rfl, h, e, q⟩
theorem Zl1 {to ti : TE} {ts : TSet} {R : St -> Hp -> Prop} (h : to σ H fun o H1 => ti σ H1 fun i H2 => ts o i v H2 fun H3 => R σ H3) : gSub to ti ts v σ H R := h
theorem ZaZ {x : V} {T t : String} (h : tyN H x = some t) (hT : T ∈ ["int", "bool", "str", "tuple", "list", "dict"]) (q : Q (.bl (isi t T)) H) : rIsi [x, .ty T] H Q := ⟨x, T, t, rfl, h, hT, q⟩
theorem Zdm {a : Addr} {xs : List V} (h : H a = some (.tup xs)) : tyN H (.ref a) = some "tuple" := by show tyO (H a) = _; rw [h]; rfl
theorem Zd1 {a : Addr} {xs : List V} (h : H a = some (.lst xs)) : tyN H (.ref a) = some "list" := by show tyO (H a) = _; rw [h]; rfl
theorem Zjk (a b : Str) : eqV (.str a) (.str b) = (a == b) := rfl
theorem Zj4 {rr : V -> Option Int -> Option Int -> Hp -> VK -> Prop} {tl th : TO} (h : te σ H fun x H1 => tl σ H1 fun l H2 => th σ H2 fun u H3 => rr x l u H3 Q) : tSl rr te tl th σ H Q := h
theorem Ziq {R : Option Int -> Hp -> Prop} (h : R none H) : Zh4 σ H R := h
theorem ZlR {R : Option Int -> Hp -> Prop} (h : ta σ H fun x H1 => ∃ i, x = .int i /\ R (some i) H1) : tPart ta σ H R := h
theorem rd_int {R : Int -> Prop} (h : R i) : ∃ k, V.int i = V.int k /\ R k := ⟨i, rfl, h⟩
theorem rd_bm {T : String} {rr : V -> List V -> Hp -> VK -> Prop} {ta' : TA} (h : ta σ H fun x H1 => tyV K T x H1 /\ ta' σ H1 fun xs H2 => rr x xs H2 Q) : tBM K T rr ta ta' σ H Q := h
theorem Zcp {l : Addr} {xs : List V} (h : H l = some (.lst xs)) (hz : xs.length < sizeLine) (q : Q .non (upd H l (.lst (xs ++ [y])))) : ZiD (.ref l) [y] H Q := ⟨l, xs, y, rfl, rfl, h, hz, q⟩
theorem Zl8 {LN : List Str} {fr : List Nat} {wi : TI} (h : wi σ H fun J H1 => ∃ W : Nat -> Nat -> List V -> St -> Hp -> Prop, (∃ m, W 0 m [] (Zc0 LN fr σ) H1) /\ CW J g c te W Q) : ZlA LN fr wi g c te σ H Q := h
noncomputable def itK (K : PySem.W.Frag) (R : It -> Hp -> Prop) (x : V) (H1 : Hp) : Prop := ∃ a, x = .ref a /\ (∃ xs, SqT K H1 a xs) /\ R (Itt K a) H1
noncomputable def ilK (K : PySem.W.Frag) (R : It -> Hp -> Prop) (x : V) (H1 : Hp) : Prop := ∃ a, x = .ref a /\ (∃ xs, SqL K H1 a xs) /\ R (Itl K a) H1
noncomputable def irK (R : It -> Hp -> Prop) (vs : List V) (H1 : Hp) : Prop := ∃ j : Int, vs = [.int j] /\ -(2 ^ 62) <= j /\ j < 2 ^ 62 /\ R (Itr 0 j.toNat) H1
theorem ZlX {R : It -> Hp -> Prop} {tl : TE} (h : tl σ H (itK K R)) : iTup K tl σ H R := h
theorem Zka {R : It -> Hp -> Prop} {tl : TE} (h : tl σ H (ilK K R)) : ZmG K tl σ H R := h
theorem ZlY {R : It -> Hp -> Prop} {ta' : TA} (h : ta' σ H (irK R)) : ZmF ta' σ H R := h
theorem ZmB {R : It -> Hp -> Prop} {x : V} {ds : List D} (h : Rep H (.tup ds) x) (q : ∀ a xs, x = .ref a -> H a = some (.tup xs) -> Reps H ds xs -> R (Itt K a) H) : itK K R x H := by
 obtain ⟨a, xs, rfl, ha, r⟩ := Zaz h
 exact ⟨a, rfl, ⟨xs, SqT.of ha⟩, q a xs rfl ha r⟩
theorem Zct {R : It -> Hp -> Prop} {a : Addr} {xs : List V} (h : SqL K H a xs) (q : R (Itl K a) H) : ilK K R (.ref a) H := ⟨a, rfl, ⟨xs, h⟩, q⟩
theorem Zdh {R : It -> Hp -> Prop} {j : Int} (h1 : -(2 ^ 62) <= j) (h2 : j < 2 ^ 62) (q : R (Itr 0 j.toNat) H) : irK R [.int j] H := ⟨j, rfl, h1, h2, q⟩
theorem Zdo {tg : TGs} {a : Addr} {xs : List V} {R : St -> Hp -> Prop} (h : H a = some (.tup xs)) (hl : xs.length = n) (q : tg xs σ H R) : gTup K n tg (.ref a) σ H R := ⟨a, xs, rfl, SqT.of h, hl, q⟩
theorem Zkb {tg : TGs} {vs : List V} {R : St -> Hp -> Prop} (h : g v σ H fun σ' H' => tg vs σ' H' R) : gCons g tg (v :: vs) σ H R := ⟨v, vs, rfl, h⟩
theorem Zl2 {R : St -> Hp -> Prop} (h : R σ H) : gNil [] σ H R := ⟨rfl, h⟩
theorem rd_for {wi : TI} (h : wi σ H fun J H1 => ∃ W : Nat -> Nat -> St -> Hp -> Prop, (∃ m, W 0 m σ H1) /\ ∀ i m σ H, W i m σ H ->
 (J.stop i H /\ D'.nx σ H) \/ (J.go i H /\ ∃ N : St -> Hp -> Prop, (∀ σ' H', N σ' H' -> ∃ m', m' < m /\ W (i + 1) m' σ' H') /\ ∀ x H', J.yld i H x H' -> g x σ H' fun σ2 H2 => t { D' with nx := N, ct := N, bk := D'.nx } σ2 H2)) : tFor wi g t D' σ H := h
theorem rd_len {p : Addr} {ys : List V} (h : H p = some (.tup ys)) (q : Q (.int ys.length) H) : ∃ x n, [V.ref p] = [x] /\ LenV K x H n /\ Q (.int n) H := ⟨_, _, rfl, .inr ⟨ys, SqT.of h, rfl⟩, q⟩
end
end L2
end
section
namespace L2
open PySem PySem.Spec PyProof.Rows
theorem bt_abs : bootBuiltins "abs" = some (.builtin "abs") := by decide +kernel
theorem ZaW : bootBuiltins "len" = some (.builtin "len") := by decide +kernel
theorem Zaq : bootBuiltins "isinstance" = some (.builtin "isinstance") := by decide +kernel
theorem Zls : bootBuiltins "max" = some (.builtin "max") := by decide +kernel
theorem ZjF : bootBuiltins "min" = some (.builtin "min") := by decide +kernel
theorem ZjE : bootBuiltins "sorted" = some (.builtin "sorted") := by decide +kernel
theorem ZeO : bootBuiltins "all" = some (.builtin "all") := by decide +kernel
theorem ZfQ : bootBuiltins "int" = some (.type "int") := by decide +kernel
theorem Zes : bootBuiltins "bool" = some (.type "bool") := by decide +kernel
theorem ZbX : bootBuiltins "tuple" = some (.type "tuple") := by decide +kernel
theorem ZcY : bootBuiltins "list" = some (.type "list") := by decide +kernel
theorem Zhh : bootBuiltins "str" = some (.type "str") := by decide +kernel
theorem bt_set : bootBuiltins "set" = some (.type "set") := by decide +kernel
theorem bt_zip : bootBuiltins "zip" = some (.type "zip") := by decide +kernel
noncomputable def bkOk (N : List Str) (sc osc : Scope) (FN : List Str) (fr : List Nat) : Bool :=
 decide (sc.kind = .function) && sc.names.all (fun y => decide (y.2 ≠ .cell)) && sc.names.all (fun y => decide (y.2 = .local -> sc.names.lookup y.1 = some .local)) &&
 sc.names.all (fun y => decide (y.2 = .free -> osc.names.lookup y.1 = some .cell \/ osc.names.lookup y.1 = some .free)) &&
 FN.all (fun x => decide (osc.names.lookup x = some .cell \/ osc.names.lookup x = some .free)) && FN.all (fun x => decide (sc.names.lookup x = some .free)) && decide (FN.map some = fr.map fun j => N[j]?)
theorem ZcZ {N : List Str} {sc osc : Scope} {LN FN : List Str} {fr : List Nat} (h : bkOk N sc osc FN fr = true) : BkScope N sc osc LN FN fr := by
 unfold bkOk at h
 simp only [Bool.and_eq_true, List.all_eq_true, decide_eq_true_eq] at h
 obtain ⟨⟨⟨⟨⟨⟨h1, h2⟩, h3⟩, h4⟩, h5⟩, h6⟩, h7⟩ := h
 exact ⟨h1, h2, h3, h4, h5, h6, h7⟩
section
variable {X : Cx}
noncomputable def rIxA (K : PySem.W.Frag) : R2 := fun x y H Q => rIxL K x y H Q \/ rIxT K x y H Q
theorem ix_any : IxR X (rIxA X.K) := ix_list.or ix_tup
theorem Za6 {K : PySem.W.Frag} {H : Hp} {p : Addr} {xs : List V} {i : Int} {v : V} {Q : VK} (h : H p = some (.tup xs)) (e : atI xs i = some v) (q : Q v H) : rIxA K (.ref p) (.int i) H Q := .inr (rd_ixT h e q)
theorem Zaj {K : PySem.W.Frag} {H : Hp} {p : Addr} {xs : List V} {i : Int} {v : V} {Q : VK} (h : H p = some (.lst xs)) (e : atI xs i = some v) (q : Q v H) : rIxA K (.ref p) (.int i) H Q := .inl (rd_ixL h e q)
theorem ZaV {α : Type} {xs : List α} {i : Int} {n : Nat} {v : α} (hi : i = (n : Int)) (h : xs[n]? = some v) : atI xs i = some v := by
 subst hi
 have hl : n < xs.length := (List.getElem?_eq_some_iff.mp h).1
 unfold atI ixN
 rw [if_pos (by lia), if_pos (by lia)]
 simpa using h
theorem ZcR {K : PySem.W.Frag} {H : Hp} {x : V} {ds : List D} {i : Int} {n : Nat} {d : D} {Q : VK} (h : Rep H (.tup ds) x) (hi : i = (n : Int)) (e : ds[n]? = some d) (q : ∀ v, Rep H d v -> Q v H) : rIxA K x (.int i) H Q := by
 obtain ⟨a, xs, rfl, ha, r⟩ := Zaz h
 obtain ⟨v, ev, rv⟩ := r.get e
 exact Za6 ha (ZaV hi ev) (q v rv)
theorem ZgS {K : PySem.W.Frag} {H : Hp} {x : V} {ds : List D} {i : Int} {n : Nat} {k : Int} {Q : VK} (h : Rep H (.tup ds) x) (hi : i = (n : Int)) (e : ds[n]? = some (.int k)) (q : Q (.int k) H) : rIxA K x (.int i) H Q :=
 ZcR h hi e fun v r => by rw [ZaL r]; exact q
theorem ZhX {H : Hp} {x : V} {ds : List D} (h : Rep H (.tup ds) x) : tyN H x = some "tuple" := by
 obtain ⟨a, xs, rfl, ha, r⟩ := Zaz h
 exact Zdm ha
theorem ZkB {K : PySem.W.Frag} {H : Hp} {x : V} {ds : List D} {Q : VK} (h : Rep H (.tup ds) x) (q : Q (.int ds.length) H) : ∃ y n, [x] = [y] /\ LenV K y H n /\ Q (.int n) H := by
 obtain ⟨a, xs, rfl, ha, r⟩ := Zaz h
 exact rd_len ha (by rw [<- r.length]; exact q)
noncomputable def rLen (K : PySem.W.Frag) : List V -> Hp -> VK -> Prop := fun xs H Q => ∃ x n, xs = [x] /\ LenV K x H n /\ Q (.int n) H
theorem ZjA : ZbU X (.builtin "len") (rLen X.K) := ZkQ
theorem Zf6 {K : PySem.W.Frag} {H : Hp} {x : V} {ds : List D} {Q : VK} (h : Rep H (.tup ds) x) (q : Q (.int ds.length) H) : rLen K [x] H Q := ZkB h q
theorem ZaO {K : PySem.W.Frag} {H : Hp} {p : Addr} {ys : List V} {Q : VK} (h : SqL K H p ys) (q : Q (.int ys.length) H) : rLen K [.ref p] H Q := ⟨_, _, rfl, .inl ⟨ys, h, rfl⟩, q⟩
noncomputable def rAbs : List V -> Hp -> VK -> Prop := fun xs H Q => ∃ i, xs = [.int i] /\ Q (.int (if i < 0 then -i else i)) H
theorem ZjD : ZbU X (.builtin "abs") rAbs := ZkR
theorem rd_abs {H : Hp} {i : Int} {Q : VK} (q : Q (.int (if i < 0 then -i else i)) H) : rAbs [.int i] H Q := ⟨i, rfl, q⟩
noncomputable def rMax : List V -> Hp -> VK -> Prop := fun xs H Q => ∃ i j, xs = [.int i, .int j] /\ Q (.int (if j > i then j else i)) H
theorem ZfK (hc : X.calm = true) : ZbU X (.builtin "max") rMax := Zjy hc
theorem rd_max {H : Hp} {i j : Int} {Q : VK} (q : Q (.int (if j > i then j else i)) H) : rMax [.int i, .int j] H Q := ⟨i, j, rfl, q⟩
noncomputable def rMin : List V -> Hp -> VK -> Prop := fun xs H Q => ∃ i j, xs = [.int i, .int j] /\ Q (.int (if j < i then j else i)) H
theorem Zeq (hc : X.calm = true) : ZbU X (.builtin "min") rMin := Zjx hc
theorem rd_min {H : Hp} {i j : Int} {Q : VK} (q : Q (.int (if j < i then j else i)) H) : rMin [.int i, .int j] H Q := ⟨i, j, rfl, q⟩
noncomputable def Ziy (K : PySem.W.Frag) : List V -> Hp -> VK -> Prop := fun xs H Q => ∃ p ys, xs = [.ref p] /\ ((SqL K H p ys /\ ∀ l, H l = none -> Q (.ref l) (upd H l (.tup ys))) \/ (SqT K H p ys /\ Q (.ref p) H))
theorem Zju : ZbU X (.type "tuple") (Ziy X.K) := Zfe
theorem Zf3 {K : PySem.W.Frag} {H : Hp} {p : Addr} {ys : List V} {Q : VK} (h : SqL K H p ys) (q : ∀ l, H l = none -> Q (.ref l) (upd H l (.tup ys))) : Ziy K [.ref p] H Q := ⟨p, ys, rfl, .inl ⟨h, q⟩⟩
noncomputable def ZiB (K : PySem.W.Frag) : List V -> Hp -> VK -> Prop := fun xs H Q => ∃ p ys, xs = [.ref p] /\ (SqL K H p ys \/ SqT K H p ys) /\ ∀ l, H l = none -> Q (.ref l) (upd H l (.lst ys))
theorem Zjz : ZbU X (.type "list") (ZiB X.K) := ZfL
theorem Zj7 {K : PySem.W.Frag} {H : Hp} {p : Addr} {ys : List V} {Q : VK} (h : SqL K H p ys \/ SqT K H p ys) (q : ∀ l, H l = none -> Q (.ref l) (upd H l (.lst ys))) : ZiB K [.ref p] H Q := ⟨p, ys, rfl, h, q⟩
noncomputable def ZiC : R2 := fun x y H Q => ∃ a b, x = .bl a /\ y = .bl b /\ Q (.bl (a != b)) H
theorem Zhw : OpR X (compareOp .IsNot) ZiC := ZiP
theorem Zis {a b : Bool} {H : Hp} {Q : VK} (q : Q (.bl (a != b)) H) : ZiC (.bl a) (.bl b) H Q := ⟨a, b, rfl, rfl, q⟩
theorem Zdv {n : Nat} (h : Nat.ble n 1000 = true) : n <= sizeLine := ZcM (Nat.le_of_ble_eq_true h)
end
section
variable {X : Cx} {K : PySem.W.Frag} {pos : Pos}
theorem k_ix (h : X.K = K) : IxR X (rIxA K) := h ▸ ix_any
theorem Zbt (h : X.K = K) : ZbU X (.builtin "len") (rLen K) := h ▸ ZjA
theorem Zgi (h : X.K = K) : ZbU X (.type "tuple") (Ziy K) := h ▸ Zju
theorem Zmz (h : X.K = K) : ZbU X (.type "list") (ZiB K) := h ▸ Zjz
theorem k_sl (h : X.K = K) : SlR X (rSlL K) := h ▸ ZlH
theorem k_neL (h : X.K = K) (hu : X.A.units + 64 < cLine) : OpR X (compareOp .NotEq) (rNeL K) := h ▸ op_neL hu
theorem k_in (h : X.K = K) : OpR X (compareOp .In) (rIn K false) := h ▸ ZiR
theorem Zbh {tg l : Expr} {tl : TE} (h : X.K = K) (hl : PE X l tl) : PI X tg l (ZmG K tl) := h ▸ Zmh hl
theorem Zg6 {tg l : Expr} {tl : TE} (h : X.K = K) (hl : PE X l tl) : PI X tg l (iTup K tl) := h ▸ pi_tup hl
theorem ZcO {es : List Expr} {k : Nat} {t : TGs} {n : Nat} (h : X.K = K) (hc : X.calm = true) (hg : PGs X es t)
  (hn : (assignEach es X.env).length = n := by rfl) (hst : (assignEach es X.env).findIdx? (·.1) = none := by rfl) : PG X (.Tuple es k pos) (gTup K n t) := h ▸ pg_tup hc hg hn hst
variable {o e : Expr} {es : List Expr} {to : TE} {t : TA} {name : Str} {apos cpos : Pos} {T id : String} {r : V -> List V -> Hp -> VK -> Prop}
theorem k_bm (h : X.K = K) (pa : PlainAttrs T) (slot : Slot T name id) (hty : typeOf (.builtin id) = pure (.type "method_descriptor")) (hm : MtR X id r) (ho : PE X o to) (ha : PA X (e :: es) t)
  (hbase : attributeBase o name X.env (eval o X.env) = eval o X.env := by rfl)
  (hfew : ((backTo cpos (starEach (e :: es) X.env)).all (fun x => !x.1) && (backToKw cpos (keywordEach [] X.env)).all (fun x => x.1.isSome)
   && decide ((e :: es).length + ([] : List Keyword).length + (if ([] : List Keyword).isEmpty then 0 else 1) < 30)) = true := by rfl)
  (hline : (apos.endLine == cpos.line) = true := by rfl) (hs : starEach (e :: es) X.env = (false, eval e X.env) :: starEach es X.env := by rfl) (hplain : (backTo cpos (starEach es X.env)).any (·.1) = false := by rfl) :
  PE X (.Call (.Attribute o name apos) (e :: es) [] cpos) (tBM K T r to t) := h ▸ pe_bm pa slot hty hm ho ha hbase hfew hline hs hplain
end
end L2
end
section
namespace L2
open PySem PySem.Spec PyProof.Rows
structure TopFn (K : PySem.W.Frag) (mg : Str -> Option Value) (x : Str) (st : Stmt) (ps : List Str) : Prop where
 ex : ∃ f fd, Fun K x x st f fd /\ mg x = some (.ref f) /\ Binds K fd ps []
section
variable {P : Program} {w : World} {K : PySem.W.Frag} {mg : Str -> Option Value} {base : Heap} {x : Str} {st : Stmt} {ps N : List Str} {sp : Sp} {k : Nat}
theorem TopFn.callee (T : TopFn K mg x st ps) (h : ∀ f fd, Fun K x x st f fd -> FnOk P w K mg base CX0 k f fd ps sp) : Callee P w K mg base x k ps sp := by
 obtain ⟨f, fd, F, hm, hb⟩ := T.ex
 exact ⟨f, fd, h f fd F, hm, F.kp, hb⟩
noncomputable def sp0 (b : Hp -> VK -> Prop) : Sp := fun vs H Q _ => vs = [] /\ b H Q
noncomputable def sp1 (b : V -> Hp -> VK -> Prop) : Sp := fun vs H Q _ => ∃ x, vs = [x] /\ b x H Q
noncomputable def sp2 (b : V -> V -> Hp -> VK -> Prop) : Sp := fun vs H Q _ => ∃ x y, vs = [x, y] /\ b x y H Q
noncomputable def sp3 (b : V -> V -> V -> Hp -> VK -> Prop) : Sp := fun vs H Q _ => ∃ x y z, vs = [x, y, z] /\ b x y z H Q
noncomputable def sp4 (b : V -> V -> V -> V -> Hp -> VK -> Prop) : Sp := fun vs H Q _ => ∃ x y z u, vs = [x, y, z, u] /\ b x y z u H Q
noncomputable def sp5 (b : V -> V -> V -> V -> V -> Hp -> VK -> Prop) : Sp := fun vs H Q _ => ∃ x y z u v, vs = [x, y, z, u, v] /\ b x y z u v H Q
theorem use0 {b : Hp -> VK -> Prop} {H : Hp} {Q : VK} {E : XK} (h : b H Q) : sp0 b [] H Q E := ⟨rfl, h⟩
theorem use1 {b : V -> Hp -> VK -> Prop} {x : V} {H : Hp} {Q : VK} {E : XK} (h : b x H Q) : sp1 b [x] H Q E := ⟨x, rfl, h⟩
theorem use2 {b : V -> V -> Hp -> VK -> Prop} {x y : V} {H : Hp} {Q : VK} {E : XK} (h : b x y H Q) : sp2 b [x, y] H Q E := ⟨x, y, rfl, h⟩
theorem use3 {b : V -> V -> V -> Hp -> VK -> Prop} {x y z : V} {H : Hp} {Q : VK} {E : XK} (h : b x y z H Q) : sp3 b [x, y, z] H Q E := ⟨x, y, z, rfl, h⟩
theorem use4 {b : V -> V -> V -> V -> Hp -> VK -> Prop} {x y z u : V} {H : Hp} {Q : VK} {E : XK} (h : b x y z u H Q) : sp4 b [x, y, z, u] H Q E := ⟨x, y, z, u, rfl, h⟩
theorem use5 {b : V -> V -> V -> V -> V -> Hp -> VK -> Prop} {x y z u v : V} {H : Hp} {Q : VK} {E : XK} (h : b x y z u v H Q) : sp5 b [x, y, z, u, v] H Q E := ⟨x, y, z, u, v, rfl, h⟩
noncomputable def ZfX (P : Program) (w : World) (K : PySem.W.Frag) (mg : Str -> Option Value) (base : Heap) (N : List Str) (x : Str) (st : Stmt) (f : Addr) (cdv : Value) (A : Around) (outer : List Env) (s : Shared) (H : Hp) (vs : List V) (Q : VK) (E : XK) : Prop :=
 ∃ t, PSs (cxOf CX0 P w K mg base N x (Zag st) f cdv A outer s H E).nox (ZaA st) t /\ t { nx := fun _ H' => Q .non H', rt := Q } (Zew N vs) H
theorem TopFn.ok0 {b : Hp -> VK -> Prop} (T : TopFn K mg x st []) (S : FnScope N [] (Zag st))
  (h : ∀ (f : Addr) (cdv : Value) (A : Around) (outer : List Env) (s : Shared) (H : Hp) (Q : VK) (E : XK), Room k (A.deeper (envOfC x (Zag st) s.heap.objs.size f cdv)) -> b H Q -> ZfX P w K mg base N x st f cdv A outer s H [] Q E) : Callee P w K mg base x (k + 1) [] (sp0 b) :=
 T.callee fun f fd F => F.ok S (fun vs H Q E ⟨e, _⟩ => by rw [e]; rfl) fun cdv A outer s H vs Q E hr hsp => by
  obtain ⟨rfl, hb⟩ := hsp
  exact h f cdv A outer s H Q E hr hb
theorem TopFn.ok1 {a1 : Str} {b : V -> Hp -> VK -> Prop} (T : TopFn K mg x st [a1]) (S : FnScope N [a1] (Zag st))
  (h : ∀ (f : Addr) (cdv : Value) (A : Around) (outer : List Env) (s : Shared) (H : Hp) (v1 : V) (Q : VK) (E : XK), Room k (A.deeper (envOfC x (Zag st) s.heap.objs.size f cdv)) -> b v1 H Q -> ZfX P w K mg base N x st f cdv A outer s H [v1] Q E) : Callee P w K mg base x (k + 1) [a1] (sp1 b) :=
 T.callee fun f fd F => F.ok S (fun vs H Q E ⟨_, e, _⟩ => by rw [e]; rfl) fun cdv A outer s H vs Q E hr hsp => by
  obtain ⟨v1, rfl, hb⟩ := hsp
  exact h f cdv A outer s H v1 Q E hr hb
theorem TopFn.ok2 {a1 a2 : Str} {b : V -> V -> Hp -> VK -> Prop} (T : TopFn K mg x st [a1, a2]) (S : FnScope N [a1, a2] (Zag st))
  (h : ∀ (f : Addr) (cdv : Value) (A : Around) (outer : List Env) (s : Shared) (H : Hp) (v1 v2 : V) (Q : VK) (E : XK), Room k (A.deeper (envOfC x (Zag st) s.heap.objs.size f cdv)) -> b v1 v2 H Q -> ZfX P w K mg base N x st f cdv A outer s H [v1, v2] Q E) : Callee P w K mg base x (k + 1) [a1, a2] (sp2 b) :=
 T.callee fun f fd F => F.ok S (fun vs H Q E ⟨_, _, e, _⟩ => by rw [e]; rfl) fun cdv A outer s H vs Q E hr hsp => by
  obtain ⟨v1, v2, rfl, hb⟩ := hsp
  exact h f cdv A outer s H v1 v2 Q E hr hb
theorem TopFn.ok3 {a1 a2 a3 : Str} {b : V -> V -> V -> Hp -> VK -> Prop} (T : TopFn K mg x st [a1, a2, a3]) (S : FnScope N [a1, a2, a3] (Zag st))
  (h : ∀ (f : Addr) (cdv : Value) (A : Around) (outer : List Env) (s : Shared) (H : Hp) (v1 v2 v3 : V) (Q : VK) (E : XK), Room k (A.deeper (envOfC x (Zag st) s.heap.objs.size f cdv)) -> b v1 v2 v3 H Q -> ZfX P w K mg base N x st f cdv A outer s H [v1, v2, v3] Q E) : Callee P w K mg base x (k + 1) [a1, a2, a3] (sp3 b) :=
 T.callee fun f fd F => F.ok S (fun vs H Q E ⟨_, _, _, e, _⟩ => by rw [e]; rfl) fun cdv A outer s H vs Q E hr hsp => by
  obtain ⟨v1, v2, v3, rfl, hb⟩ := hsp
  exact h f cdv A outer s H v1 v2 v3 Q E hr hb
theorem TopFn.ok4 {a1 a2 a3 a4 : Str} {b : V -> V -> V -> V -> Hp -> VK -> Prop} (T : TopFn K mg x st [a1, a2, a3, a4]) (S : FnScope N [a1, a2, a3, a4] (Zag st))
  (h : ∀ (f : Addr) (cdv : Value) (A : Around) (outer : List Env) (s : Shared) (H : Hp) (v1 v2 v3 v4 : V) (Q : VK) (E : XK), Room k (A.deeper (envOfC x (Zag st) s.heap.objs.size f cdv)) -> b v1 v2 v3 v4 H Q -> ZfX P w K mg base N x st f cdv A outer s H [v1, v2, v3, v4] Q E) : Callee P w K mg base x (k + 1) [a1, a2, a3, a4] (sp4 b) :=
 T.callee fun f fd F => F.ok S (fun vs H Q E ⟨_, _, _, _, e, _⟩ => by rw [e]; rfl) fun cdv A outer s H vs Q E hr hsp => by
  obtain ⟨v1, v2, v3, v4, rfl, hb⟩ := hsp
  exact h f cdv A outer s H v1 v2 v3 v4 Q E hr hb
theorem TopFn.ok5 {a1 a2 a3 a4 a5 : Str} {b : V -> V -> V -> V -> V -> Hp -> VK -> Prop} (T : TopFn K mg x st [a1, a2, a3, a4, a5]) (S : FnScope N [a1, a2, a3, a4, a5] (Zag st))
  (h : ∀ (f : Addr) (cdv : Value) (A : Around) (outer : List Env) (s : Shared) (H : Hp) (v1 v2 v3 v4 v5 : V) (Q : VK) (E : XK), Room k (A.deeper (envOfC x (Zag st) s.heap.objs.size f cdv)) -> b v1 v2 v3 v4 v5 H Q -> ZfX P w K mg base N x st f cdv A outer s H [v1, v2, v3, v4, v5] Q E) : Callee P w K mg base x (k + 1) [a1, a2, a3, a4, a5] (sp5 b) :=
 T.callee fun f fd F => F.ok S (fun vs H Q E ⟨_, _, _, _, _, e, _⟩ => by rw [e]; rfl) fun cdv A outer s H vs Q E hr hsp => by
  obtain ⟨v1, v2, v3, v4, v5, rfl, hb⟩ := hsp
  exact h f cdv A outer s H v1 v2 v3 v4 v5 Q E hr hb
theorem ZaI {f : Addr} {cdv : Value} {A : Around} {outer : List Env} {s : Shared} {H : Hp} {vs : List V} {Q : VK} {E : XK} {t : TS} (σ : St) (hσ : Zew N vs = σ) (h : PSs (cxOf CX0 P w K mg base N x (Zag st) f cdv A outer s H E).nox (ZaA st) t)
  (q : t { nx := fun _ H' => Q .non H', rt := Q } σ H) : ZfX P w K mg base N x st f cdv A outer s H vs Q E := ⟨t, h, by rw [hσ]; exact q⟩
end
end L2
namespace L2
open PySem PySem.Spec PyProof.Rows
theorem Zll {b : Bool} {A B : Prop} (h : b = false) (q : B) : if b = true then A else B := by subst h; exact iteF q
theorem ZmA {b : Bool} {A B : Prop} (h : b = true) (q : A) : if b = true then A else B := by subst h; exact iteT q
theorem ZcS {c A B : Prop} [Decidable c] (h : ¬ c) (q : B) : if decide c = true then A else B := by rw [decide_eq_false h]; exact iteF q
theorem ZeH {c A B : Prop} [Decidable c] (h : c) (q : A) : if decide c = true then A else B := by rw [decide_eq_true h]; exact iteT q
theorem ite_ny {c A B : Prop} [Decidable c] (h : ¬ c) (q : A) : if (!decide c) = true then A else B := by rw [decide_eq_false h]; exact iteT q
theorem Zav {c A B : Prop} [Decidable c] (h : c -> A) (q : ¬ c -> B) : if decide c = true then A else B := by
 by_cases e : c
 ·exact ZeH e (h e)
 ·exact ZcS e (q e)
theorem ZdN {c A B : Prop} [Decidable c] (h : ¬ c -> A) (q : c -> B) : if (!decide c) = true then A else B := by
 by_cases e : c
 ·exact ZkE e (q e)
 ·exact ite_ny e (h e)
noncomputable def Zgc (p : Int × Int) : D := .tup [.int p.1, .int p.2]
end L2
namespace L2
theorem Zax {n : Nat} (h : n <= 1000000) : n <= PySem.sizeLine := Nat.le_trans h (by rw [PySem.sizeLine_eq]; decide)
end L2
namespace L2
theorem Zgk {A B : Prop} (h : B) : if (!true) = true then A else B := iteF h
theorem iteNF {A B : Prop} (h : A) : if (!false) = true then A else B := iteT h
end L2
namespace L2
open PySem
theorem Zjq (ns : List Int) (lo hi : Option Int) : ∃ ms : List Int, cutV (ns.map V.int) lo hi = ms.map V.int /\ ms.length <= ns.length := by
 refine ⟨(ns.drop (HT.sIx (ns.map V.int).length 0 lo)).take (HT.sIx (ns.map V.int).length (ns.map V.int).length hi - HT.sIx (ns.map V.int).length 0 lo), ?_, ?_⟩
 ·unfold cutV
  rw [List.map_take, List.map_drop]
 ·rw [List.length_take, List.length_drop]
  lia
theorem ZgR {K : PySem.W.Frag} {H : Hp} {a : Addr} {xs : List V} {lo hi : Option Int} {Q : VK} (h : SqL K H a xs) (q : ∀ p, H p = none -> Q (.ref p) (upd H p (.lst (cutV xs lo hi)))) : rSlL K (.ref a) lo hi H Q := ⟨a, xs, rfl, h, q⟩
theorem ZcH {H : Hp} {l b : Addr} {xs zs : List V} {Q : VK} (h1 : H l = some (.lst xs)) (h2 : H b = some (.lst zs)) (hl : xs.length + zs.length <= sizeLine) (q : ∀ p, H p = none -> Q (.ref p) (upd H p (.lst (xs ++ zs)))) : rCat (.ref l) (.ref b) H Q := ⟨l, b, xs, zs, rfl, rfl, h1, h2, hl, q⟩
theorem Zha {ns : List Int} {i : Nat} {x : V} (h : (ns.map V.int)[i]? = some x) : ∃ z, x = .int z /\ ns[i]? = some z := by
 rw [List.getElem?_map] at h
 obtain ⟨z, e, rfl⟩ := Option.map_eq_some_iff.mp h
 exact ⟨z, rfl, e⟩
theorem Zlw {H : Hp} {a b : Addr} {o u : HO} (h : H b = some u) (hn : H a = none) : upd H a o b = some u := by rw [ZaH (Zba h hn)]; exact h
noncomputable def Zie (K : PySem.W.Frag) : Sp := sp1 fun x H Q => ∃ (a : Addr) (ns : List Int), x = .ref a /\ SqL K H a (ns.map V.int) /\ ns.length <= 63 /\ ∀ H', Q (.bl true) H'
theorem ZjZ {K : PySem.W.Frag} {H : Hp} {a : Addr} {ns : List Int} {E : XK} (hl : ns.length <= 63) (hS : SqL K H a (ns.map V.int)) : Zie K [.ref a] H (fun v _ => v = .bl true) E := ⟨_, rfl, a, ns, rfl, hS, hl, fun _ => rfl⟩
theorem Fun.law {P : Program} {w : World} {K : PySem.W.Frag} {mg : Str -> Option Value} {base : Heap} {st : Stmt} {f : Addr} {fd : FuncData} {N : List Str} {k : Nat} (F : Fun K "law" "law" st f fd) (S : FnScope N ["script"] (Zag st))
  (h : ∀ (cdv : Value) (A : Around) (outer : List Env) (s : Shared) (H : Hp) (a : Addr) (ns : List Int) (Q : VK) (E : XK), Room k (A.deeper (PyProof.Rows.envOfC "law" (Zag st) s.heap.objs.size f cdv)) -> SqL K H a (ns.map V.int) -> ns.length <= 63 -> (∀ H', Q (.bl true) H') ->
   ZfX P w K mg base N "law" st f cdv A outer s H [.ref a] Q E) : FnOk P w K mg base CX0 (k + 1) f fd ["script"] (Zie K) :=
 F.ok S (fun vs H Q E ⟨_, e, _⟩ => by rw [e]; rfl) fun cdv A outer s H vs Q E hr hsp => by
  obtain ⟨_, rfl, a, ns, rfl, h1, h2, h3⟩ := hsp
  exact h cdv A outer s H a ns Q E hr h1 h2 h3
end L2
namespace L2
theorem ten60 : (10 : Int) ^ (60 : Int).toNat = 1000000000000000000000000000000000000000000000000000000000000 := by decide +kernel
theorem Zlq : CPow 10 60 := ⟨by decide, by decide, by decide⟩
theorem ZjH {x : Int} (h : x.natAbs <= 10 ^ 70) : x.natAbs < 2 ^ 8000 := Nat.lt_of_le_of_lt h (by decide +kernel)
theorem Zjt {x y : Int} (h : x.natAbs <= 10 ^ 70) (h2 : y.natAbs <= 10 ^ 70) : CBig x y := ⟨ZjH h, ZjH h2⟩
theorem Zfd {x y : Int} (h : 0 < y) (h2 : y.natAbs <= 10 ^ 70) : ZmY x y := ⟨h, ZjH h2⟩
end L2
end
section
namespace L2
open PySem
noncomputable def bagL (l : Addr) (i m st c : Int) : List V := [.ref l, .int i, .int m, .int st, .int c]
structure BagAt (H : Hp) (b l : Addr) : Prop where
 ex : ∃ (xs : List Int) (i : Nat) (m st c : Int), H b = some (.lst (bagL l i m st c)) /\ H l = some (.lst (xs.map V.int)) /\ i <= xs.length /\ (0 <= m /\ m <= 10 ^ 60) /\ (0 <= st /\ st < 2147483647) /\ (∀ x ∈ xs, 0 <= x /\ x <= 10 ^ 60) /\ xs.length <= 63
noncomputable def BSame (b : Addr) (H H' : Hp) : Prop := ∀ a o, a ≠ b -> H a = some o -> H' a = some o
theorem BSame.refl (b : Addr) (H : Hp) : BSame b H H := fun _ _ _ h => h
theorem BSame.trans {b : Addr} {H H1 H2 : Hp} (x : BSame b H H1) (y : BSame b H1 H2) : BSame b H H2 := fun a o n h => y a o n (x a o n h)
theorem BSame.of {b : Addr} {H H' : Hp} (s : Same H H') : BSame b H H' := fun a o _ h => s a o h
theorem BSame.wr {b : Addr} {H : Hp} {o : HO} : BSame b H (upd H b o) := fun a u n h => by rw [ZaH n]; exact h
theorem BagAt.lst {H : Hp} {b l : Addr} (B : BagAt H b l) : ∃ xs, H b = some (.lst xs) := let ⟨_, _, _, _, _, h, _⟩ := B.ex; ⟨_, h⟩
theorem BSame.ts {b l : Addr} {H H' : Hp} (x : BSame b H H') (B : BagAt H b l) : TSame H H' := fun a xs e => by
 obtain ⟨ys, hb⟩ := B.lst
 refine x a _ (fun z => ?_) e
 subst z
 rw [hb] at e
 cases e
theorem BagAt.mono {H H' : Hp} {b l : Addr} (B : BagAt H b l) (s : Same H H') : BagAt H' b l := by
 obtain ⟨xs, i, m, st, c, h1, h2, r⟩ := B.ex
 exact ⟨xs, i, m, st, c, s _ _ h1, s _ _ h2, r⟩
theorem BagAt.wr {H : Hp} {b l q : Addr} {o : HO} (B : BagAt H b l) (h1 : b ≠ q) (h2 : l ≠ q) : BagAt (upd H q o) b l := by
 obtain ⟨xs, i, m, st, c, e1, e2, r⟩ := B.ex
 exact ⟨xs, i, m, st, c, by rw [ZaH h1]; exact e1, by rw [ZaH h2]; exact e2, r⟩
theorem BagAt.ne {H : Hp} {b l q : Addr} (B : BagAt H b l) (h : H q = none) : b ≠ q /\ l ≠ q := by
 obtain ⟨xs, i, m, st, c, e1, e2, r⟩ := B.ex
 exact ⟨Zba e1 h, Zba e2 h⟩
theorem BSame.wrNew {b q : Addr} {H H1 : Hp} {o : HO} (x : BSame b H H1) (h : H q = none) : BSame b H (upd H1 q o) := fun a u n e => by
 rw [ZaH (Zba e h)]
 exact x a u n e
theorem BSame.free {b q : Addr} {H H1 : Hp} (x : BSame b H H1) (n : q ≠ b) (h : H1 q = none) : H q = none := by
  cases e : H q with
  | none => rfl
  | some o =>
    rw [x q o n e] at h
    cases h
theorem BSame.to {b : Addr} {H H1 H2 : Hp} (x : BSame b H H1) (y : Same H1 H2) : BSame b H H2 := x.trans (BSame.of y)
theorem ZmS {ms : List Int} {i : Int} (h0 : 0 <= i) (h1 : i < ms.length) : ∃ v ∈ ms, atI (ms.map V.int) i = some (.int v) := by
 have hi : i.toNat < ms.length := by lia
 refine ⟨ms[i.toNat], List.getElem_mem hi, ZaV (n := i.toNat) (by lia) ?_⟩
 rw [List.getElem?_map, List.getElem?_eq_getElem hi]
 rfl
inductive drawB (x y : V) (H : Hp) (Q : VK) : Prop
 | mk (b l n) (_ : x = .ref b) (_ : y = .int n) (_ : 0 < n /\ n <= 10 ^ 65) (_ : BagAt H b l) (_ : ∀ r H', 0 <= r -> r < n -> BagAt H' b l -> BSame b H H' -> Q (.int r) H') : drawB x y H Q
noncomputable def ZcC : Sp := sp2 drawB
inductive Pr_number (x : V) (H : Hp) (Q : VK) : Prop
 | mk (b l) (_ : x = .ref b) (_ : BagAt H b l) (_ : ∀ r H', r.natAbs <= 10 ^ 60 -> BagAt H' b l -> BSame b H H' -> Q (.int r) H') : Pr_number x H Q
noncomputable def Zc9 : Sp := sp1 (Pr_number)
inductive Pr_bag (K : PySem.W.Frag) (x : V) (H : Hp) (Q : VK) : Prop
 | mk (a : Addr) (ns : List Int) (_ : x = .ref a) (_ : SqL K H a (ns.map V.int)) (_ : ns.length <= 63) (_ : ∀ b l H', H b = none -> Same H H' -> BagAt H' b l -> Q (.ref b) H') : Pr_bag K x H Q
noncomputable def sp_bag (K : PySem.W.Frag) : Sp := sp1 (Pr_bag K)
theorem ZcF {H : Hp} : ∀ (ns : List Int), Reps H (ns.map D.int) (ns.map V.int)
 | [] => ZaE
 | n :: ns => Zap Zbq (ZcF ns)
theorem ZeY : ∀ (ns : List Int), D.pls (ns.map D.int) = true
 | [] => rfl
 | n :: ns => by rw [List.map_cons, D.pls, ZeY ns]; rfl
theorem Zeo : ∀ (ns : List Int), D.deps (ns.map D.int) = 0
 | [] => rfl
 | n :: ns => by rw [List.map_cons, D.deps, Zeo ns]; rfl
end L2
end
section
namespace L3
open PySem PyProof.Rows
class KOrd where
 kd : SortKind
 good : Keyed -> Prop
 kv : Keyed -> Int
noncomputable abbrev oneType' [KOrd] : SortKind := KOrd.kd
noncomputable def IntK [KOrd] (x : Keyed) : Prop := KOrd.good x
noncomputable def kvl [KOrd] (x : Keyed) : Int := KOrd.kv x
noncomputable def IntKeys [KOrd] (xs : Array Keyed) : Prop := ∀ q, q ∈ xs.toList -> IntK q
noncomputable def K [KOrd] (xs : Array Keyed) (i : Nat) : Int := match xs[i]? with
 | some q => kvl q
 | none => 0
class KLt [KOrd] (P : Program) (W : World) (A : Around) (E : Value -> Shared -> Prop) (z : Shared) : Prop where
 lt : ∀ {u : SortSt} {x y : Keyed} {Q : Option Bool -> SortSt -> Prop}, kindOf u = oneType' -> IntK x -> IntK y -> Q (some (decide (kvl x < kvl y))) u -> wpS (model P W) A E z (lt' x y) Q u
section
variable [KOrd]
end
section
variable [KOrd] {P : Program} {W : World} {A : Around} {E : Value -> Shared -> Prop} {z : Shared} [KLt P W A E z]
noncomputable def bey (left : Bool) (kv : Int) (arr : Array Keyed) (base i : Nat) : Bool := if left then decide (K arr (base + i) < kv) else !decide (kv < K arr (base + i))
end
end L3
end
section
namespace L3
open PySem PyProof.Rows
variable [KOrd]
section
variable {a b out : List Keyed} {ia ib : Nat}
end
section
variable {P : Program} {W : World} {A : Around} {E : Value -> Shared -> Prop} {z : Shared} [KLt P W A E z]
structure Fr (u v : SortSt) : Prop where
 kind : kindOf v = kindOf u
 arr : arrOf v = arrOf u
 pend : pendingOf v = pendingOf u
 failed : failedOf v = failedOf u
end
section
variable {a b out : Array Keyed} {ia ib : Nat}
end
section
variable {P : Program} {W : World} {A : Around} {E : Value -> Shared -> Prop} {z : Shared} [KLt P W A E z]
end
end L3
end
section
namespace L3
open PySem PyProof.Rows
variable [KOrd]
section
variable {a b out : List Keyed} {na nb : Nat}
end
section
variable {a b out : Array Keyed} {na nb : Nat}
end
section
variable {P : Program} {W : World} {A : Around} {E : Value -> Shared -> Prop} {z : Shared} [KLt P W A E z]
end
end L3
end
section
namespace L3
open PySem PyProof.Rows
variable [KOrd]
section
variable {P : Program} {W : World} {A : Around} {E : Value -> Shared -> Prop} {z : Shared} [KLt P W A E z]
end
end L3
end
section
namespace L3
open PySem PyProof.Rows
variable [KOrd]
section
variable {P : Program} {W : World} {A : Around} {E : Value -> Shared -> Prop} {z : Shared} [KLt P W A E z] {a₀ : Array Keyed} {p : Array (Nat × Nat × Nat)}
end
end L3
end
section
namespace L3
open PySem PyProof.Rows
variable [KOrd]
section
variable {P : Program} {W : World} {A : Around} {E : Value -> Shared -> Prop} {z : Shared} [KLt P W A E z] {a₀ : Array Keyed} {p : Array (Nat × Nat × Nat)}
end
end L3
end
section
namespace L3
open PySem PyProof.Rows
variable [KOrd]
section
variable {u v : SortSt} {sa n : Nat}
end
section
variable {P : Program} {W : World} {A : Around} {E : Value -> Shared -> Prop} {z : Shared} [KLt P W A E z] {a₀ : Array Keyed}
end
end L3
end
section
namespace L2
open PySem PySem.Spec PyProof.Rows
section
variable {P : Program} {W : World} {A : Around} {E : Value -> Shared -> Prop} {z : Shared}
noncomputable def Zlt (P : Program) (W : World) (A : Around) (E : Value -> Shared -> Prop) (z : Shared) (b : Array Keyed) : Prop :=
 ∀ u : SortSt, SBase b u -> arrOf u = b -> wpS (model P W) A E z sortRuns' (fun _ v => (arrOf v).Perm b /\ failedOf v = none /\ SortedTo (arrOf v) b.size) u
theorem Zj1 {b : Array Keyed} (hk : IntKeys b) (h2 : 2 <= b.size) (h : b.size < 64) : Zlt P W A E z b := fun u hu _ => wpS_sortRuns hk hu h2 h fun v a c d => ⟨a, c, d⟩
theorem ZlE {a : Addr} {us : List Value} {ns : List Int} {k : Nat} {F : PySem.Fin -> Shared -> Prop} (ho : z.heap.get? a = some (seqObj "list" us.toArray k)) (hi : IntsAre us ns) (hz : us.length <= sizeLine)
  (hr : 2 <= us.length -> ∀ z', Zlt P W A E z' (pairsOf us))
  (h : ∀ (out : Array Value) (ms : List Int), IntsAre out.toList ms -> ms.Perm ns -> ms.Pairwise (· <= ·) -> F (.done (.ret .none)) { z with heap := sortedHeap z.heap a us out }) :
  wpAny (model P W) A (Builtin.«list.sort» ⟨[.ref a], []⟩) F E z := by
 have hlt : a < z.heap.objs.size := Heap.lt_size ho
 have hus : us.toArray.size = us.length := by simp
 obtain ⟨ep, hoE⟩ : ∃ ep, (z.heap.update a (Obj.mapSeq fun _ => #[])).get? a = some (seqObj "list" #[] ep) := ⟨_, get?_update_seq ho fun _ => #[]⟩
 have hoF : (((z.heap.update a (Obj.mapSeq fun _ => #[])).push (seqObj "tuple" us.toArray 0)).push (seqObj "list" #[] 0)).get? a = some (seqObj "list" #[] ep) := Heap.get?_push_of_some _ (Heap.get?_push_of_some _ hoE)
 have ends : ∀ v : SortSt, (arrOf v).Perm (pairsOf us) -> SortedTo (arrOf v) (pairsOf us).size -> F (.done (.ret .none)) { z with heap := sortedHeap z.heap a us ((arrOf v).map (·.2)) } := fun v hp hs => by
  obtain ⟨ms, q1, q2, q3⟩ := sorted_out hi hp hs
  exact h _ ms q1 q2 q3
 have hfit : ∀ v : SortSt, (arrOf v).Perm (pairsOf us) -> ((arrOf v).map (·.2)).size <= sizeLine + 1 := fun v hp => by
  rw [Array.size_map, hp.size_eq, pairsOf_size]
  lia
 rw [list_sort_plain]
 refine wpAny_bind (listItems_at (o := seqObj "list" us.toArray k) ho rfl ?_)
 refine wpAny_bind (listUpdate_at (hsz := by rw [hus]; exact hz) (hsz2 := Nat.zero_le _) (o := seqObj "list" us.toArray k) ho rfl ?_)
 refine wpAny_bind (seqEpoch_at (o := seqObj "list" #[] ep) hoE rfl ?_)
 refine wpAny_bind (wpAny_newTuple ?_ (hsz := by rw [Array.length_toList, hus]; exact hz))
 refine wpAny_bind (wpAny_newList ?_ (hsz := Nat.zero_le _))
 refine wpAny_holding (id ?_)
 dsimp only
 by_cases hfew : us.toArray.size < 2
 ·rw [if_pos hfew, if_pos hfew]
  refine wpAny_bind (wpAny_pure (id ?_))
  rw [StateT.run_pure]
  refine wpAny_bind (wpAny_pure (id ?_))
  dsimp only
  refine wpAny_bind (seqEpoch_at (o := seqObj "list" #[] ep) hoF rfl ?_)
  refine wpAny_bind (listUpdate_at (hsz := Nat.zero_le _) (hsz2 := hfit (SortSt.mk' general' (us.toArray.zip us.toArray) #[] 7 none) (Array.Perm.refl _)) (o := seqObj "list" #[] ep) hoF rfl ?_)
  simp only [bne_self_eq_false, Bool.false_eq_true, if_false]
  refine wpAny_pure (ends (SortSt.mk' general' (us.toArray.zip us.toArray) #[] 7 none) (Array.Perm.refl _) fun i j hij hj => ?_)
  obtain rfl : i = j := by rw [pairsOf_size] at hj; lia
  exact Int.le_refl _
 ·rw [if_neg hfew, if_neg hfew]
  have hkind : keyKind' us.toArray = pure oneType' := by
   match us, hi, hus, hfew with
   | [], _, _, hf => simp at hf
   | [_], _, _, hf => simp at hf
   | _ :: _ :: _, hi, _, _ => exact keyKind_ints hi
  rw [hkind]
  refine wpAny_bind (wpAny_pure (id ?_))
  refine wpAny_bind (wpAny_mono (hr (by lia) _ (SortSt.mk' oneType' (us.toArray.zip us.toArray) #[] 7 none) ⟨Array.Perm.refl _, rfl, rfl, rfl⟩ rfl) ?_ fun _ _ q => q)
  rintro ⟨⟨⟩, v⟩ z' ⟨rfl, hp, hf, hs⟩
  dsimp only
  refine wpAny_bind (seqEpoch_at (o := seqObj "list" #[] ep) hoF rfl ?_)
  refine wpAny_bind (listUpdate_at (hsz := Nat.zero_le _) (hsz2 := hfit v hp) (o := seqObj "list" #[] ep) hoF rfl ?_)
  rw [hf]
  simp only [bne_self_eq_false, Bool.false_eq_true, if_false]
  exact wpAny_pure (ends v hp hs)
end
theorem Un.track' {fs ex : List Addr} {H H1 : Hp} {h h1 : Heap} {a : Addr} {o : HO} (u : Un fs ex H H1 h h1) (hne : ∀ b o, h.get? b = some o -> b ≠ a) (hn : H a = none) : Un fs ex H (upd H1 a o) h h1 where
 keep := u.keep
 slot := u.slot
 free := fun b ob q n hx => by
  rw [ZaH (hne b ob q)]
  exact u.free b ob q n hx
 there := u.there
 tups := fun b xs q => by
  rw [ZaH (fun z => by rw [z, hn] at q; cases q)]
  exact u.tups b xs q
 frzs := fun b ob x q => by
  rw [ZaH (fun z => by rw [z, hn] at q; cases q)]
  exact u.frzs b ob x q
 tbls := fun b ps q => by
  rw [ZaH (fun z => by rw [z, hn] at q; cases q)]
  exact u.tbls b ps q
theorem ObjOk.there {P : Program} {w : World} {H : Hp} {h : Heap} {a : Addr} {o : HO} (x : ObjOk P w H h a o) : ∃ ob, h.get? a = some ob := by
 cases o with
 | lst xs => obtain ⟨_, _, _, _, e⟩ := x; exact ⟨_, e⟩
 | tup xs => obtain ⟨_, _, _, ob, e, _⟩ := x; exact ⟨_, e⟩
 | dK kvs => obtain ⟨_, _, _, _, o, _, _, e, _⟩ := x; exact ⟨_, e⟩
 | dT kvs => obtain ⟨_, _, _, _, o, _, _, e, _⟩ := x; exact ⟨_, e⟩
 | set S n => obtain ⟨o, _, _, _, e, _⟩ := x; exact ⟨_, e⟩
 | ins C dx fs => obtain ⟨_, _, _, e, _⟩ := x; exact ⟨_, e⟩
 | own y => exact x
 | xd fs => obtain ⟨_, ⟨o, _, _, e, _⟩, _⟩ := x; exact ⟨_, e⟩
 | rng lo hi => obtain ⟨_, _, _, e⟩ := x; exact ⟨_, e⟩
 | frz ob u => obtain ⟨e, _⟩ := x; exact ⟨_, e⟩
 | tbl ps => exact ⟨_, x⟩
 | met f y => exact ⟨_, x⟩
 | ext φ => obtain ⟨_, e, _⟩ := x; exact e
theorem ZdC : ∀ {us : List Value} {ns : List Int}, IntsAre us ns -> Vals (ns.map V.int) us
 | _, _, .nil => .nil
 | _, _, .cons n t h => .cons ⟨t, rfl⟩ (ZdC h)
theorem KV.at' {κ : Type} : ∀ {kvs : List (κ × V)} {vs : List (κ × Value)} {j : Nat} {k : κ} {x : Value}, KV kvs vs -> vs[j]? = some (k, x) -> ∃ p, kvs[j]? = some p /\ p.1 = k
  | _, _, j, k, x, .nil, e => by simp at e
  | p :: _, q :: _, 0, k, x, .cons r _, e => by
    simp at e
    subst e
    exact ⟨p, rfl, r.1⟩
  | p :: ps, q :: qs, j + 1, k, x, .cons _ t, e => by
    obtain ⟨p', e1, e2⟩ := KV.at' (j := j) (kvs := ps) (vs := qs) t (by simpa using e)
    exact ⟨p', by simpa using e1, e2⟩
end L2
namespace L2
open PySem
end L2
namespace L2
open PySem
theorem Zkd {td ty tx : TE} {σ : St} {H : Hp} {Q : VK} (h : td σ H fun x H1 => ∃ a, x = .ref a /\ IsD H1 a /\ ty σ H1 fun y H2 => tx σ H2 fun z H3 => ∃ o, DGet H3 a y o /\ Q (o.getD z) H3) : ZkZ td ty tx σ H Q := h
theorem Zl6 {td ty : TE} {σ : St} {H : Hp} {Q : VK} (h : td σ H fun x H1 => ty σ H1 fun y H2 => ∃ a v, x = .ref a /\ DGet H2 a y (some v) /\ Q v H2) : tDGet td ty σ H Q := h
end L2
namespace L2
open PySem
end L2
end
section
namespace L3
open PySem
noncomputable def Up (xs : Array Nat) : Prop := ∀ (i j x y : Nat), i < j -> xs[i]? = some x -> xs[j]? = some y -> x < y
theorem Zfh {xs : Array Nat} (u : Up xs) (j : Nat) : ∀ (fuel lo hi : Nat), hi <= xs.size -> lo <= hi -> hi - lo <= fuel -> (∀ (m x : Nat), m < lo -> xs[m]? = some x -> x < j) -> (∀ (m x : Nat), hi <= m -> xs[m]? = some x -> j <= x) ->
    SetTable.below.go xs j fuel lo hi <= xs.size /\ (∀ (m x : Nat), m < SetTable.below.go xs j fuel lo hi -> xs[m]? = some x -> x < j) /\ (∀ (m x : Nat), SetTable.below.go xs j fuel lo hi <= m -> xs[m]? = some x -> j <= x)
  | 0, lo, hi, h1, h2, h3, a, b => by
    have e : lo = hi := by lia
    subst e
    exact ⟨h1, a, b⟩
  | fuel + 1, lo, hi, h1, h2, h3, a, b => by
    unfold SetTable.below.go
    by_cases hlt : lo < hi
    · rw [if_pos hlt]
      dsimp only
      have hm : (lo + hi) / 2 < xs.size := by lia
      have hg : xs[(lo + hi) / 2]? = some xs[(lo + hi) / 2] := Array.getElem?_eq_getElem hm
      have hd : xs.getD ((lo + hi) / 2) j = xs[(lo + hi) / 2] := by simp [Array.getD, hm]
      rw [hd]
      by_cases hx : xs[(lo + hi) / 2] < j
      · rw [if_pos hx]
        refine Zfh u j fuel _ hi h1 (by lia) (by lia) (fun m x hm' e => ?_) b
        rcases Nat.lt_or_ge m ((lo + hi) / 2) with q | q
        · exact Nat.lt_trans (u m _ x _ q e hg) hx
        · have : m = (lo + hi) / 2 := by lia
          subst this
          rw [hg] at e; cases e
          exact hx
      · rw [if_neg hx]
        refine Zfh u j fuel lo _ (by lia) (by lia) (by lia) a (fun m x hm' e => ?_)
        rcases Nat.lt_or_ge ((lo + hi) / 2) m with q | q
        · have := u _ m _ x q hg e
          lia
        · have : m = (lo + hi) / 2 := by lia
          subst this
          rw [hg] at e; cases e
          lia
    · rw [if_neg hlt]
      have e : lo = hi := by lia
      subst e
      exact ⟨h1, a, b⟩
theorem Zfi {xs : Array Nat} (u : Up xs) (j : Nat) : SetTable.below xs j <= xs.size /\ (∀ (m x : Nat), m < SetTable.below xs j -> xs[m]? = some x -> x < j) /\ (∀ (m x : Nat), SetTable.below xs j <= m -> xs[m]? = some x -> j <= x) :=
 Zfh u j xs.size 0 xs.size (Nat.le_refl _) (Nat.zero_le _) (by lia) (fun _ _ h => absurd h (Nat.not_lt_zero _)) (fun m x h e => by
  rw [Array.getElem?_eq_none h] at e
  cases e)
theorem ZgB {xs : Array Nat} (u : Up xs) : SetTable.below xs 0 = 0 := by
 obtain ⟨h1, h2, _⟩ := Zfi u 0
 refine Nat.eq_zero_of_not_pos fun h => ?_
 have := h2 0 _ h (Array.getElem?_eq_getElem (by lia))
 lia
theorem ZhK {xs : Array Nat} (u : Up xs) {k x : Nat} (e : xs[k]? = some x) : SetTable.below xs (x + 1) = k + 1 := by
 obtain ⟨h1, h2, h3⟩ := Zfi u (x + 1)
 have hk : k < xs.size := (Array.getElem?_eq_some_iff.mp e).1
 have a : ¬ SetTable.below xs (x + 1) <= k := fun h => by
  have := h3 k x h e
  lia
 have b : ¬ k + 1 < SetTable.below xs (x + 1) := fun h => by
  have hs : k + 1 < xs.size := by lia
  have e2 := Array.getElem?_eq_getElem hs
  have q1 := h2 (k + 1) _ h e2
  have q2 := u k (k + 1) _ _ (Nat.lt_succ_self _) e e2
  lia
 lia
theorem ZjS : Up #[] := fun i j x y _ e _ => by simp at e
theorem ZjR (n : Nat) : Up (Array.range n) := fun i j x y h e e' => by
 rw [Array.getElem?_eq_some_iff] at e e'
 obtain ⟨_, e⟩ := e
 obtain ⟨_, e'⟩ := e'
 simp at e e'
 lia
theorem up_sub {l : List Nat} (h : l.Pairwise (· < ·)) : Up l.toArray := fun i j x y hij e e' => by
 rw [List.getElem?_toArray] at e e'
 obtain ⟨h1, rfl⟩ := List.getElem?_eq_some_iff.mp e
 obtain ⟨h2, rfl⟩ := List.getElem?_eq_some_iff.mp e'
 exact List.pairwise_iff_getElem.mp h i j h1 h2 hij
theorem ZhW {xs : Array Nat} (u : Up xs) {j : Nat} (hn : xs[SetTable.below xs j]? ≠ some j) : Up (SetTable.insertAt xs (SetTable.below xs j) j) := by
 obtain ⟨h1, h2, h3⟩ := Zfi u j
 generalize SetTable.below xs j = p at *
 have hl : (SetTable.insertAt xs p j).toList = xs.toList.take p ++ j :: xs.toList.drop p := by simp [SetTable.insertAt, List.extract_eq_take_drop, List.take_of_length_le]
 have hge : ∀ i, (SetTable.insertAt xs p j)[i]? = (xs.toList.take p ++ j :: xs.toList.drop p)[i]? := fun i => by rw [<- hl, Array.getElem?_toList]
 have hlt : (xs.toList.take p).length = p := by simp; lia
 have lo : ∀ i, i < p -> (SetTable.insertAt xs p j)[i]? = xs[i]? := fun i hi => by
  rw [hge, List.getElem?_append_left (by lia), List.getElem?_take, if_pos hi, Array.getElem?_toList]
 have mid : (SetTable.insertAt xs p j)[p]? = some j := by rw [hge, List.getElem?_append_right (by lia), hlt]; simp
 have hi : ∀ i, p <= i -> (SetTable.insertAt xs p j)[i + 1]? = xs[i]? := fun i h => by
  rw [hge, List.getElem?_append_right (by lia), hlt, show i + 1 - p = (i - p) + 1 by lia, List.getElem?_cons_succ, List.getElem?_drop, show p + (i - p) = i by lia, Array.getElem?_toList]
 have gt : ∀ m x, p <= m -> xs[m]? = some x -> j < x := fun m x hm e => by
  have hle := h3 m x hm e
  rcases Nat.lt_or_eq_of_le hle with q | q
  ·exact q
  ·subst q
   rcases Nat.lt_or_eq_of_le hm with hm | hm
   ·have hp : p < xs.size := Nat.lt_of_lt_of_le hm (Nat.le_of_lt (Array.getElem?_eq_some_iff.mp e).1)
    have ep := Array.getElem?_eq_getElem hp
    have a := u p m _ _ hm ep e
    have b := h3 p _ (Nat.le_refl _) ep
    lia
   ·subst hm
    exact absurd e hn
 intro a b x y hab ea eb
 rcases Nat.lt_trichotomy a p with ha | ha | ha
 ·rw [lo a ha] at ea
  rcases Nat.lt_trichotomy b p with hb | hb | hb
  ·rw [lo b hb] at eb
   exact u a b x y hab ea eb
  ·subst hb
   rw [mid] at eb; cases eb
   exact h2 a x ha ea
  ·obtain ⟨c, rfl⟩ : ∃ c, b = c + 1 := ⟨b - 1, by lia⟩
   rw [hi c (by lia)] at eb
   exact Nat.lt_trans (h2 a x ha ea) (gt c y (by lia) eb)
 ·subst ha
  rw [mid] at ea; cases ea
  obtain ⟨c, rfl⟩ : ∃ c, b = c + 1 := ⟨b - 1, by lia⟩
  rw [hi c (by lia)] at eb
  exact gt c y (by lia) eb
 ·obtain ⟨c, rfl⟩ : ∃ c, b = c + 1 := ⟨b - 1, by lia⟩
  obtain ⟨d, rfl⟩ : ∃ d, a = d + 1 := ⟨a - 1, by lia⟩
  rw [hi c (by lia)] at eb
  rw [hi d (by lia)] at ea
  exact u d c x y (by lia) ea eb
structure Tab (t : SetTable) : Prop where
 up : Up t.place
 nod : t.dummies = #[]
theorem Zhb (j : Nat) : SetTable.has #[] j = false := by
 unfold SetTable.has
 simp
theorem Zht {t : SetTable} {j : Nat} (h : t.slot j = .empty) : t.place[SetTable.below t.place j]? ≠ some j := fun e => by
 unfold SetTable.slot at h
 simp [e] at h
theorem Zj0 {t : SetTable} (h : t.dummies = #[]) {j : Nat} : t.slot j ≠ .dummy := fun e => by
 unfold SetTable.slot at e
 dsimp only at e
 split at e
 ·cases e
 ·rw [h, Zhb] at e
  simp at e
theorem ZjJ (t : SetTable) (p : SetTable.Probe) : (t.advance p).dummy = p.dummy := by
 unfold SetTable.advance
 split <;> rfl
theorem ZgU {t : SetTable} (hd : t.dummies = #[]) (f : Nat -> Int) (h : Int) : ∀ (fuel : Nat) (p : SetTable.Probe) (j : Nat) (d : Option Nat), p.dummy = none -> SetTable.probe.go t f h fuel p = some (.empty j d) -> t.slot j = .empty /\ d = none
  | 0, p, j, d, _, e => by simp [SetTable.probe.go] at e
  | fuel + 1, p, j, d, hp, e => by
    unfold SetTable.probe.go at e
    cases hs : t.slot p.j with
    | empty =>
      rw [hs] at e
      simp only [Option.some.injEq, SetTable.Met.empty.injEq] at e
      obtain ⟨rfl, rfl⟩ := e
      exact ⟨hs, hp⟩
    | dummy => exact absurd hs (Zj0 hd)
    | live i =>
      rw [hs] at e
      dsimp only at e
      split at e
      · simp at e
      · exact ZgU hd f h fuel _ j d (by rw [ZjJ]; exact hp) e
theorem Zjh {t : SetTable} (hd : t.dummies = #[]) {h : Int} {j : Nat} {b : Bool} (e : t.freeSlot h = some (j, b)) : t.slot j = .empty /\ b = false := by
 unfold SetTable.freeSlot at e
 split at e
 ·rename_i k d hk
  obtain ⟨h1, rfl⟩ := ZgU hd _ _ _ _ _ _ rfl hk
  simp at e
  obtain ⟨rfl, rfl⟩ := e
  exact ⟨h1, rfl⟩
 ·cases e
theorem Zh3 (f m : Nat) (l : Bool) : Tab (SetTable.fresh f m l) := ⟨ZjS, rfl⟩
theorem Zc6 (t : SetTable) (n : Nat) : Tab (t.standIn n) := ⟨ZjR n, rfl⟩
theorem tab_or {t : SetTable} (T : Tab t) (n : Nat) : Tab (t.orStandIn n) := by
 unfold SetTable.orStandIn
 split
 ·exact T
 ·exact Zc6 t n
theorem Zh2 {t : SetTable} (T : Tab t) (b : Bool) : Tab { t with plain := b } := ⟨T.up, T.nod⟩
theorem Zlx {t : SetTable} (T : Tab t) {j : Nat} (h : t.slot j = .empty) : Tab (t.put j).1 := by
 unfold SetTable.put
 refine ⟨ZhW T.up (Zht h), ?_⟩
 dsimp only
 rw [T.nod, Zhb]
 rfl
theorem led_or (t : SetTable) (n : Nat) : (t.orStandIn n).led = t.led := by
 unfold SetTable.orStandIn
 split <;> rfl
theorem Zly {t : SetTable} (T : Tab t) (es : Array (Int × Value)) (h : Int) (x : Value) : Tab (layNew t es h x).2.1 /\ (layNew t es h x).2.1.led = t.led := by
 unfold layNew
 split
 ·rename_i j b e
  refine ⟨tab_or (Zlx T (Zjh T.nod e).1) _, ?_⟩
  dsimp only
  rw [led_or]
  rfl
 ·exact ⟨Zc6 _ _, rfl⟩
theorem ZiY (f : Nat -> Option (Nat × Nat)) (hf : ∀ j y, f j = some y -> y.1 = j) : ∀ (l : List Nat), l.Pairwise (· < ·) -> ((l.filterMap f).map (·.1)).Pairwise (· < ·) /\ ∀ z ∈ (l.filterMap f).map (·.1), z ∈ l
  | [], _ => ⟨List.Pairwise.nil, fun z h => by simp at h⟩
  | a :: l, h => by
    obtain ⟨h1, h2⟩ := List.pairwise_cons.mp h
    obtain ⟨i1, i2⟩ := ZiY f hf l h2
    cases e : f a with
    | none =>
      rw [List.filterMap_cons_none e]
      exact ⟨i1, fun z hz => List.mem_cons_of_mem _ (i2 z hz)⟩
    | some y =>
      rw [List.filterMap_cons_some e, List.map_cons, hf a y e]
      exact ⟨List.pairwise_cons.mpr ⟨fun z hz => h1 z (i2 z hz), i1⟩, fun z hz => (List.mem_cons.mp hz).elim (fun q => by rw [q]; exact List.mem_cons_self) fun q => List.mem_cons_of_mem _ (i2 z q)⟩
theorem ZjV {m f v : Nat} {l p : Bool} {hs : Array Int} {t : SetTable} {o : Array Nat} (e : SetTable.laid m f v l p hs = some (t, o)) : Tab t /\ t.led = l := by
  unfold SetTable.laid at e
  simp only [Option.bind_eq_bind, Option.pure_def] at e
  cases q : SetTable.layClean m hs with
  | none => rw [q] at e; cases e
  | some owner =>
    rw [q] at e
    simp only [Option.bind_some, Option.some.injEq, Prod.mk.injEq] at e
    obtain ⟨rfl, _⟩ := e
    refine ⟨⟨?_, rfl⟩, rfl⟩
    dsimp only
    refine up_sub (ZiY _ (fun j y hy => ?_) _ List.pairwise_lt_range).1
    obtain ⟨z, _, rfl⟩ := Option.map_eq_some_iff.mp hy
    rfl
theorem Zh1 {t : SetTable} (T : Tab t) (es : Array (Int × Value)) (n : Nat) : Tab (relayAll t es n).2.1 /\ (relayAll t es n).2.1.led = t.led := by
 unfold relayAll
 split
 ·rename_i t' o e
  dsimp only
  split
  ·exact ZjV e
  ·exact ⟨Zc6 _ _, rfl⟩
 ·exact ⟨Zc6 _ _, rfl⟩
theorem ZeJ {α : Type} {l : List α} {i : Nat} (h : i < l.length) : ([l[i]] ++ l.eraseIdx i).Perm l := by
 rw [List.eraseIdx_eq_take_drop_succ]
 have e : l = l.take i ++ l[i] :: l.drop (i + 1) := by simp
 refine List.Perm.trans ?_ (List.Perm.of_eq e.symm)
 show (l[i] :: (List.take i l ++ List.drop (i + 1) l)).Perm _
 exact List.perm_middle.symm
theorem ZiG {α : Type} (next : Nat -> Nat) : ∀ (fuel k : Nat) (left : List α) (out : Array α), left.length = fuel -> (pickOrder.go next fuel k left out).toList.Perm (out.toList ++ left)
  | 0, k, left, out, h => by
    have : left = [] := List.eq_nil_of_length_eq_zero h
    subst this
    simp [pickOrder.go]
  | fuel + 1, k, left, out, h => by
    unfold pickOrder.go
    have hlt : next k % left.length < left.length := Nat.mod_lt _ (by lia)
    rw [List.getElem?_eq_getElem hlt]
    dsimp only
    refine (ZiG next fuel (k + 1) _ _ (by rw [List.length_eraseIdx_of_lt hlt]; lia)).trans ?_
    rw [Array.toList_push, List.append_assoc]
    refine List.Perm.append_left _ ?_
    exact ZeJ hlt
theorem Zeb {α : Type} (next : Nat -> Nat) (xs : Array α) : (pickOrder next xs).toList.Perm xs.toList := by
 have := ZiG next xs.size 0 xs.toList #[] (by simp)
 simpa [pickOrder] using this
theorem Zec {α : Type} [DecidableEq α] : ∀ {l l' : List α}, l.Nodup -> (∀ x ∈ l, x ∈ l') -> l'.length <= l.length -> l'.Perm l
  | [], l', _, _, h => by
    have : l' = [] := List.eq_nil_of_length_eq_zero (by simpa using h)
    rw [this]
  | a :: l, l', hn, hs, hl => by
    obtain ⟨h1, h2⟩ := List.nodup_cons.mp hn
    have ha := hs a List.mem_cons_self
    have p := List.perm_cons_erase ha
    refine p.trans (List.Perm.cons a (Zec h2 (fun x hx => ?_) ?_))
    · have hx' := hs x (List.mem_cons_of_mem _ hx)
      have : x ≠ a := fun e => h1 (e ▸ hx)
      exact (List.mem_erase_of_ne this).mpr hx'
    · have := p.length_eq
      simp at this hl
      lia
end L3
end
section
namespace L3
open PySem PyProof.Rows
structure SB (P : Program) (w : World) (h : Heap) (a : Addr) (S : Int -> Bool) (led : Bool) (o : Obj) (es : Array (Int × Value)) (ep : Nat) (t : SetTable) : Prop where
 here : h.get? a = some o
 ex : o.ExactSet
 dat : o.data = .set es ep t
 el : ElemsOf (intKind P w) es.toList
 mem : ∀ k, S k = true ↔ ∃ e ∈ es.toList, (intKind P w).is k e.2 = true
 few : es.size < scanBound
 fit : t.fits es.size = true
 tab : Tab t
 led : t.led = led
noncomputable def SetT (P : Program) (w : World) (h : Heap) (a : Addr) (S : Int -> Bool) (n : Nat) (led : Bool) : Prop := ∃ o es ep t, SB P w h a S led o es ep t /\ es.size = n
section
variable {P : Program} {w : World} {A : Around} {E : Value -> Shared -> Prop} {s : Shared}
theorem SB.there {h h' : Heap} {a : Addr} {S : Int -> Bool} {led : Bool} {o : Obj} {es : Array (Int × Value)} {ep : Nat} {t : SetTable} (B : SB P w h a S led o es ep t) (k : ∀ o, h.get? a = some o -> h'.get? a = some o) : SB P w h' a S led o es ep t :=
 ⟨k _ B.here, B.ex, B.dat, B.el, B.mem, B.few, B.fit, B.tab, B.led⟩
theorem SetT.there {h h' : Heap} {a : Addr} {S : Int -> Bool} {n : Nat} {led : Bool} (B : SetT P w h a S n led) (k : ∀ o, h.get? a = some o -> h'.get? a = some o) : SetT P w h' a S n led :=
 let ⟨o, es, ep, t, b, e⟩ := B; ⟨o, es, ep, t, b.there k, e⟩
theorem SetT.as {h : Heap} {a : Addr} {S S' : Int -> Bool} {n n' : Nat} {led : Bool} (B : SetT P w h a S n led) (e : ∀ k, S k = S' k) (en : n = n') : SetT P w h a S' n' led := by
 have : S = S' := funext e
 subst this; subst en; exact B
theorem SB.stored {h : Heap} {a : Addr} {S S' : Int -> Bool} {led : Bool} {o : Obj} {es es' : Array (Int × Value)} {ep : Nat} {t t' : SetTable} (B : SB P w h a S led o es ep t) (e1 : ElemsOf (intKind P w) es'.toList) (e2 : ∀ k, S' k = true ↔ ∃ e ∈ es'.toList, (intKind P w).is k e.2 = true)
  (e3 : es'.size < scanBound) (e4 : t'.fits es'.size = true) (e5 : Tab t') (e6 : t'.led = led) : SB P w (h.update a (Obj.putSet es' t')) a S' led { o with data := .set es' (ep + 1) t' } es' (ep + 1) t' :=
 ⟨(SetOf_store (knd := intKind P w) B.here B.ex B.dat e1 e2 e3 e4).1, B.ex, rfl, e1, e2, e3, e4, e5, e6⟩
theorem ZkY {gv : Bool -> Sem Unit} (hgv : ∀ (b : Bool) (s₁ : Shared) (Q' : Unit -> Shared -> Prop), Q' () s₁ -> wpAny (model P w) A (gv b) Q' E s₁) {a : Addr} {S S' : Int -> Bool} {led : Bool} {o : Obj} {es es1 : Array (Int × Value)} {ep : Nat} {t t2 : SetTable}
    (B : SB P w s.heap a S led o es ep t) (e1 : ElemsOf (intKind P w) es1.toList) (e2 : ∀ k, S' k = true ↔ ∃ e ∈ es1.toList, (intKind P w).is k e.2 = true) (e3 : es1.size < scanBound) (e4 : t2.fits es1.size = true) (e5 : Tab t2) (e6 : t2.led = led)
    {wd : Bool} {R : Option Bool -> Shared -> Prop} (fin : ∀ h', Heap.SameBut a s.heap h' -> SetT P w h' a S' es1.size led -> R (some true) { s with heap := h' }) :
    wpAny (model P w) A (do
        storeSet a es1 t2
        if (!wd && t2.tooFull) = true then do
            gv (relayAll t2 es1 (SetTable.grown es1.size)).2.2; storeSet a (relayAll t2 es1 (SetTable.grown es1.size)).1 (relayAll t2 es1 (SetTable.grown es1.size)).2.1; pure (some true)
          else pure (some true)) R E s := by
  refine wpAny_bind (wpAny_storeSet_of B.here B.dat ?_ (fits_of_scanBound e3))
  have B1 := B.stored e1 e2 e3 e4 e5 e6
  have sb1 := Heap.SameBut.update s.heap a (Obj.putSet es1 t2)
  split
  · have p1 := relayAll_perm t2 es1 (SetTable.grown es1.size)
    have p2 := relayAll_fits t2 es1 (SetTable.grown es1.size)
    obtain ⟨p3, p4⟩ := Zh1 e5 es1 (SetTable.grown es1.size)
    generalize relayAll t2 es1 (SetTable.grown es1.size) = Z at p1 p2 p3 p4 ⊢
    obtain ⟨es2, t3, g2⟩ := Z
    dsimp only at p1 p2 p3 p4 ⊢
    have sz : es2.size = es1.size := by
      have := p1.length_eq
      simpa using this
    refine wpAny_bind (hgv _ _ _ ?_)
    refine wpAny_bind (wpAny_storeSet_of B1.here rfl ?_ (fits_of_scanBound (by rw [sz]; exact e3)))
    have B2 := B1.stored (e1.perm p1) (fun k' => (e2 k').trans ⟨fun ⟨e, he, q⟩ => ⟨e, p1.mem_iff.mpr he, q⟩, fun ⟨e, he, q⟩ => ⟨e, p1.mem_iff.mp he, q⟩⟩) (by rw [sz]; exact e3) p2 p3 (p4.trans e6)
    exact wpAny_pure (fin _ (sb1.trans (Heap.SameBut.update _ a _)) ⟨_, _, _, _, B2, sz⟩)
  · exact wpAny_pure (fin _ sb1 ⟨_, _, _, _, B1, rfl⟩)
theorem add_T {a : Addr} {S : Int -> Bool} {n : Nat} {led : Bool} {k : Int} {x : Value} {Q : Bool -> Shared -> Prop} (kx : (intKind P w).is k x = true) (sx : x.scannable = true) (B : SetT P w s.heap a S n led) (room : n + 1 < scanBound)
    (fin : ∀ h', Heap.SameBut a s.heap h' -> SetT P w h' a (fun k' => S k' || decide (k' = k)) (if S k then n else n + 1) led -> Q (!S k) { s with heap := h' }) :
    wpAny (model P w) A (setAddHashed a x ((intKind P w).hash k)) Q E s := by
  obtain ⟨o, es, ep, t, B, rfl⟩ := B
  unfold setAddHashed setAddHashedIn
  refine wpAny_holding (wpAny_bind (wpAny_setState_of B.here B.dat B.fit ?_))
  dsimp only
  rw [byScan_of sx B.few B.el]
  simp only [↓reduceIte]
  unfold setAddByScan
  refine wpAny_bind ?_
  refine wpAny_bind (wpAny_rule ?_)
  refine wpAny_bind (wpAny_setScan_of kx B.here B.dat B.fit B.el ?_)
  cases hr : List.findIdx? (fun e => (intKind P w).is k e.2) es.toList with
  | some j =>
    dsimp only
    obtain ⟨hj, pj, _⟩ := List.findIdx?_eq_some_iff_getElem.mp hr
    have hk : S k = true := (B.mem k).mpr ⟨es.toList[j], List.getElem_mem hj, pj⟩
    refine wpAny_pure (wpAny_pure ?_)
    have z := fin s.heap (Heap.SameBut.refl a s.heap) ⟨o, es, ep, t, ⟨B.here, B.ex, B.dat, B.el, fun k' => by
      rw [<- B.mem k', Bool.or_eq_true, decide_eq_true_eq]
      exact ⟨fun q => q.elim id (fun e => e ▸ hk), .inl⟩, B.few, B.fit, B.tab, B.led⟩, by rw [hk]; rfl⟩
    rw [hk] at z
    exact z
  | none =>
    dsimp only
    have hk : S k = false := by
      cases q : S k with
      | false => rfl
      | true =>
        obtain ⟨e, he, pe⟩ := (B.mem k).mp q
        have := List.findIdx?_eq_none_iff.mp hr e he
        rw [pe] at this
        exact Bool.noConfusion this
    have gw : ∀ (b : Bool) {s₁ : Shared} {Q' : Unit -> Shared -> Prop}, Q' () s₁ -> wpAny (model P w) A (match b with | true => rule "set.scan.the-table-gave-way" | false => pure ()) Q' E s₁ := fun b s₁ Q' q => by
      cases b
      · exact wpAny_pure q
      · exact wpAny_rule q
    have p1 := layNew_perm t es ((intKind P w).hash k) x
    have p2 := layNew_fits t es ((intKind P w).hash k) x
    obtain ⟨p3, p4⟩ := Zly B.tab es ((intKind P w).hash k) x
    generalize layNew t es ((intKind P w).hash k) x = Z at p1 p2 p3 p4 ⊢
    obtain ⟨es1, t1, wd, gv⟩ := Z
    dsimp only at p1 p2 p3 p4 ⊢
    rw [Array.toList_push] at p1
    have e1 : ElemsOf (intKind P w) es1.toList := (B.el.push kx sx).perm p1
    have e2 : ∀ k', (S k' || decide (k' = k)) = true ↔ ∃ e ∈ es1.toList, (intKind P w).is k' e.2 = true := mem_push_iff kx B.mem p1
    have sz : es1.size = es.size + 1 := by
      have := p1.length_eq
      simpa using this
    have e3 : es1.size < scanBound := by rw [sz]; exact room
    refine wpAny_bind (gw _ ?_)
    have ends : ∀ h', Heap.SameBut a s.heap h' -> SetT P w h' a (fun k' => S k' || decide (k' = k)) es1.size led -> Q true { s with heap := h' } := fun h' sb B' => by
      have z := fin h' sb
      rw [hk] at z
      rw [sz] at B'
      exact z B'
    split
    · refine wpAny_bind ?_
      rw [hashByValue_scannable 8 sx]
      refine wpAny_pure ?_
      refine ZkY ?_ B e1 e2 e3 ?_ ?_ ?_ ?_
      · intro b s₁ Q' q; cases b <;> first | exact wpAny_pure q | exact wpAny_rule q
      · split
        · exact p2
        · exact SetTable.fits_plain_off p2
      · split
        · exact p3
        · exact Zh2 p3 false
      · split
        · exact p4.trans B.led
        · exact p4.trans B.led
      · intro h' sb B'
        dsimp only
        exact wpAny_pure (ends h' sb B')
    · refine wpAny_bind (wpAny_pure ?_)
      simp only [↓reduceIte]
      refine ZkY ?_ B e1 e2 e3 p2 p3 (p4.trans B.led) ?_
      · intro b s₁ Q' q; cases b <;> first | exact wpAny_pure q | exact wpAny_rule q
      · intro h' sb B'
        dsimp only
        exact wpAny_pure (ends h' sb B')
end
section
variable {P : Program} {w : World} {A : Around} {R : Result -> Shared -> Prop} {I : Addr} {fp wr : List Addr} {G : Array GenState -> Array GenState -> Prop} {n : Nat} {Pv : Nat -> Value -> Prop} {St : Nat -> Shared -> Prop}
theorem loop_T (W : WalksS P w A.in1 I fp wr G n Pv St) (S : Addr) (nf : S ∉ fp) (led : Bool) (val : Nat -> Int) (hval : ∀ i v, Pv i v -> ∃ t, v = .int (val i) t) (few : n + 1 < scanBound) :
    ∀ (m i : Nat) (s : Shared), n - i = m -> i <= n -> St i s -> SetT P w s.heap S (fun k' => (firstMet val i).any (· == k')) (firstMet val i).length led ->
      (∀ s', Moved (S :: wr) G s s' -> SetT P w s'.heap S (fun k' => (firstMet val n).any (· == k')) (firstMet val n).length led -> R (.ok (.ret .none)) s') ->
      codeAny (model P w) A (.builtin "set.update.loop" ⟨[.ref S, .ref I], []⟩) R s := by
  have nw : S ∉ wr := fun z => nf (W.sub _ z)
  have sub : ∀ b ∈ wr, b ∈ S :: wr := fun b z => List.mem_cons_of_mem _ z
  intro m
  induction m with
  | zero =>
    intro i s hm hi st B fin
    obtain rfl : i = n := by lia
    refine codeAny_builtin F.entry_set_update_loop ?_
    rw [Around.under_plainId F.plain_set_update_loop _]
    show wpAny _ A.in1 (pyNext (.ref I) >>= _) _ _ s
    refine wpAny_bind (W.done s _ _ st fun s' mv => ?_)
    show wpAny _ A.in1 (ret Value.none) _ _ s'
    exact wpAny_pure (fin s' (mv.mono sub) (B.there fun o e => mv.heap S _ nw e))
  | succ m ih =>
    intro i s hm hi st B fin
    have lt : i < n := by lia
    refine codeAny_builtin F.entry_set_update_loop ?_
    rw [Around.under_plainId F.plain_set_update_loop _]
    show wpAny _ A.in1 (pyNext (.ref I) >>= _) _ _ s
    refine wpAny_bind (W.item i s _ _ lt st fun v s' pv st' mv => ?_)
    obtain ⟨t, rfl⟩ := hval i v pv
    have B' := B.there (h' := s'.heap) fun o e => mv.heap S _ nw e
    show wpAny _ A.in1 (holding [Value.int (val i) t] (setAdd S (.int (val i) t)) >>= _) _ _ s'
    refine wpAny_bind (wpAny_holding ?_)
    unfold setAdd
    refine wpAny_holding ?_
    refine wpAny_bind ((intKind P w).pyHash (k := val i) (intKind_is _ _ _ _) ?_)
    have room : (firstMet val i).length + 1 < scanBound := by
      have := firstMet_length_le val i
      lia
    refine add_T (s := { s' with toks := s'.toks + 1 }) (intKind_is _ _ _ _) rfl B' room fun h' sb B2 => ?_
    have B3 : SetT P w h' S (fun k' => (firstMet val (i + 1)).any (· == k')) (firstMet val (i + 1)).length led := B2.as (fun k' => by rw [firstMet_succ, step_any]) (by rw [firstMet_succ, step_length])
    refine wpAny_pure ⟨plainId_quiet F.plain_set_update_loop _, ih (i + 1) _ (by lia) lt (W.frame _ s' _ _ st' (Nat.le_succ _) fun b hb o e => ?_) B3 fun s'' mv2 B4 => ?_⟩
    · exact (sb.2 b (fun z : b = S => nf (by rw [<- z]; exact hb))).trans e
    · refine fin s'' (Moved.trans W.gtrans ((mv.mono sub).then_heap (Nat.le_succ _) fun b o hb e => ?_) mv2) B4
      exact (sb.2 b (fun z : b = S => hb (by rw [z]; exact List.mem_cons_self))).trans e
end
section
variable {P : Program} {w : World} {A : Around} {E : Value -> Shared -> Prop} {s : Shared}
noncomputable def byT (w : World) : Bool := w.params.followText "set-order"
noncomputable def setO (led : Bool) : Obj := { cls := .type "set", dict := none, data := .set #[] 0 (.fresh 0 0 led) }
theorem new_T (x : Value) {Q₁ : Value -> Shared -> Prop} (fin : Q₁ (.ref s.heap.objs.size) { s with heap := s.heap.push (setO (!byT w)) }) :
  codeAny (model P w) A (.call (.builtin "set.__new__") ⟨[.type "set", x], []⟩) (wants Q₁ E) s := by
 refine codeAny_of_tree ?_
 show wpAny _ A.in1 (do checkBuiltinCall "set.__new__" ⟨[.type "set", x], []⟩; again (.builtin "set.__new__" ⟨[.type "set", x], []⟩)) _ _ s
 refine wpAny_bind (wpAny_of_eq (PySem.F.newCall_set_1 x) (wpAny_pure ⟨plainId_quiet PySem.F.plain_set_new _, codeAny_builtin PySem.F.entry_set_new ?_⟩))
 rw [Around.under_plainId PySem.F.plain_set_new _]
 unfold Builtin.«set.__new__» Builtin.Frozenset.newClass
 have hsub := sub_set_self
 obtain ⟨hp, g, d, tk, os⟩ := s
 dsimp only
 wp_walk
 refine wpAny_askSetting (wpAny_pure ?_)
 dsimp only
 simp only [newObj]
 refine wpAny_bind (wpAny_alloc (wpAny_pure ?_))
 exact wpAny_pure fin
theorem set_T {l : Addr} {its : Array Value} {ns : List Int} {Q : Value -> Shared -> Prop} (hh : A.handled = none) (hl : s.heap.IsList l its) (hi : IntsAre its.toList ns) (few : its.size + 1 < scanBound)
    (fin : ∀ (h' : Heap) (tk : Nat), SetT P w h' s.heap.objs.size (fun k' => (firstMet (fun i => ns.getD i 0) its.size).any (· == k')) (firstMet (fun i => ns.getD i 0) its.size).length (!byT w) ->
      (∀ b o, b < s.heap.objs.size -> s.heap.get? b = some o -> h'.get? b = some o) -> Q (.ref s.heap.objs.size) { s with heap := h', toks := tk }) :
    wpAny (model P w) A (call (.type "set") [.ref l]) Q E s := by
  obtain ⟨c, tl, hmro⟩ := PySem.F.called_set.mro
  have hmade := PySem.F.called_set.made
  have hsub := PySem.F.called_set.sub
  refine wpAny_call (codeAny_of_tree ?_)
  show wpAny _ _ (callAny (.type "set") _) _ _ _
  refine wpAny_pure ⟨Code.quiet_builtin _ (by decide +kernel), codeAny_builtin PySem.F.entry_type_call ?_⟩
  rw [Around.under_plain (weight_type_call_type "set" [.ref l] []) rfl]
  have h1 := PySem.F.called_set.notType
  have h2 := PySem.F.called_set.canCreate
  have hct := PySem.F.typeCall_set_1 (.ref l)
  repeat (any_goals (first | assumption | wp_step))
  refine codeAny_mono (new_T (.ref l) (E := E) (Q₁ := fun obj s₁ => obj = .ref s.heap.objs.size /\ s₁ = { s with heap := s.heap.push (setO (!byT w)) }) ⟨rfl, rfl⟩) fun r s₁ hr => ?_
  cases r with
  | error e => exact hr
  | ok fl =>
    cases fl with
    | ret obj =>
      obtain ⟨rfl, rfl⟩ := hr
      have hS : (s.heap.push (setO (!byT w))).get? s.heap.objs.size = some (setO (!byT w)) := Heap.get?_push_size _ rfl
      have hT : Shared.TypeIs { s with heap := s.heap.push (setO (!byT w)) } (.ref s.heap.objs.size) "set" := ⟨_, hS, rfl⟩
      have hli := PySem.F.called_set.init.lookup
      have hbi := PySem.F.called_set.init.bind (.ref s.heap.objs.size)
      repeat (any_goals (first | assumption | wp_step))
      refine codeAny_mono (codeAny_call_builtin (R := wants (fun r s₂ => r = .none /\ ∃ h' tk, s₂ = { s with heap := h', toks := tk } /\
          SetT P w h' s.heap.objs.size (fun k' => (firstMet (fun i => ns.getD i 0) its.size).any (· == k')) (firstMet (fun i => ns.getD i 0) its.size).length (!byT w) /\
          (∀ b o, b < s.heap.objs.size -> s.heap.get? b = some o -> h'.get? b = some o)) E) PySem.F.called_set.init.plain PySem.F.entry_set_init (check_set_init_1 hT ?_)) fun r₂ s₂ hr₂ => ?_
      · obtain ⟨ol, hol, hcl, nl, hdl⟩ := hl
        obtain ⟨ocls, odict, odata, oslots⟩ := ol
        simp only at hcl hdl
        subst hcl; subst hdl
        have hol' : (s.heap.push (setO (!byT w))).get? l = some { cls := .type "list", dict := odict, data := .seq its nl, slots := oslots } := Heap.get?_push_of_some _ hol
        have hsls := PySem.F.sub_list_set
        have hslf := PySem.F.sub_list_frozenset
        have hne : (Value.type "list" == Value.type "dict") = false := by decide
        have hl1 : (s.heap.push (setO (!byT w))).IsList l its := ⟨_, hol', rfl, nl, rfl⟩
        unfold Builtin.«set.__init__» noKeywords Builtin.Frozenset.updateFrom
        generalize hPI : pyIter = PI
        wp_walk
        subst hPI
        refine wpAny_pyIter_list hl1 ?_
        refine wpAny_bind (wpAny_runValue ?_)
        have hlS : l < s.heap.objs.size := Heap.lt_size hol
        have hh3 : A.in1.in1.in1.handled = none := by simp [hh]
        have hneI : l ≠ (s.heap.push (setO (!byT w))).objs.size := by
          rw [Heap.size_push]
          exact Nat.ne_of_lt (Nat.lt_succ_of_lt hlS)
        have hSf : s.heap.objs.size ∉ [(s.heap.push (setO (!byT w))).objs.size, l] := by
          rw [Heap.size_push]
          simp only [List.mem_cons, List.mem_singleton, List.not_mem_nil, or_false, not_or]
          exact ⟨Nat.ne_of_lt (Nat.lt_succ_self _), Nat.ne_of_gt hlS⟩
        have hval : ∀ (i : Nat) (v : Value), its[i]? = some v -> ∃ t, v = .int ((fun i => ns.getD i 0) i) t := fun i v hv => IntsAre.int_at hi i v (by rw [Array.getElem?_toList]; exact hv)
        refine loop_T ((Walks.list hh3 _ l hneI its).toS) s.heap.objs.size hSf (!byT w) (fun i => ns.getD i 0) hval few (its.size - 0) 0 _ (by lia) (Nat.zero_le _)
          ⟨⟨_, Heap.get?_push_size _ rfl, rfl, rfl⟩, (hl1.push _)⟩ ?hS0 ?hR
        case hS0 =>
          have hget : ((s.heap.push (setO (!byT w))).push { cls := .type "list_iterator", data := .fields #[.ref l, .int 0 0] }).get? s.heap.objs.size = some (setO (!byT w)) := Heap.get?_push_of_some _ hS
          exact ⟨_, #[], 0, _, ⟨hget, ⟨rfl, rfl, rfl⟩, rfl, fun e he => by simp at he, fun k => by simp [firstMet_zero], by unfold scanBound; decide, by rfl, Zh3 _ _ _, rfl⟩, rfl⟩
        case hR =>
          intro s' hm hS'
          obtain ⟨h', g', d', tk', os'⟩ := s'
          have eg : g' = s.gens := hm.gens
          have ed : d' = s.drawn := hm.drawn
          have eo : os' = s.os := hm.os
          subst eg; subst ed; subst eo
          show wpAny _ _ _ _ _ _
          refine wpAny_pure ?_
          show wpAny _ _ (ret Value.none) _ _ _
          refine wpAny_pure ⟨rfl, h', tk', rfl, hS', fun b o hb e => ?_⟩
          have hb1 : b ≠ s.heap.objs.size := Nat.ne_of_lt hb
          have hb2 : b ≠ (s.heap.push (setO (!byT w))).objs.size := by
            rw [Heap.size_push]
            exact Nat.ne_of_lt (Nat.lt_succ_of_lt hb)
          exact hm.heap b o (by simp only [List.mem_cons, List.mem_singleton, List.not_mem_nil, or_false, not_or]; exact ⟨hb1, hb2⟩) (Heap.get?_push_of_some _ (Heap.get?_push_of_some _ e))
      · cases r₂ with
        | error e => exact hr₂
        | ok fl₂ =>
          cases fl₂ with
          | ret r =>
            obtain ⟨rfl, h', tk, rfl, hS', hk'⟩ := hr₂
            repeat (any_goals (first | assumption | wp_step))
            exact fin _ _ hS' hk'
          | _ => exact hr₂.elim
    | _ => exact hr.elim
end
end L3
end
section
namespace L3
open PySem
theorem slot_si_next : Slot "set_iterator" "__next__" "set_iterator.__next__" := .of (owner := "set_iterator") (n := "__next__") (by rw [typeLookup_type, builtinLookup_eq_fast]; kernel_rfl) (by decide +kernel) (by decide +kernel) (by decide +kernel) (by first | exact .inl (by decide +kernel) | exact .inr (by decide +kernel)) (by rw [isSubtype_type]; kernel_rfl)
theorem ZdK : Slot "set_iterator" "__iter__" "set_iterator.__iter__" := .of (owner := "set_iterator") (n := "__iter__") (by rw [typeLookup_type, builtinLookup_eq_fast]; kernel_rfl) (by decide +kernel) (by decide +kernel) (by decide +kernel) (by first | exact .inl (by decide +kernel) | exact .inr (by decide +kernel)) (by rw [isSubtype_type]; kernel_rfl)
theorem Zb5 : entryFor table "set_iterator.__next__" = some Builtin.«set_iterator.__next__» := entryFor_of_tree (by kernel_rfl)
theorem Ze9 : entryFor table "set_iterator.__iter__" = some Builtin.«dict_keyiterator.__iter__» := entryFor_alias (id' := "dict_keyiterator.__iter__") (by kernel_rfl) rfl (by decide +kernel) (by kernel_rfl)
theorem ZfH : entryFor table "set.__iter__" = some Builtin.«frozenset.__iter__» := entryFor_alias (id' := "frozenset.__iter__") (by kernel_rfl) rfl (by decide +kernel) (by kernel_rfl)
theorem ZgZ : Manifest.owners.lookup (String.ofList ['r', 'o', 't', 'a', 'r', 'e', 't', 'i', '_', 't', 'e', 's'].reverse) = some Manifest.sig_set_iterator := by kernel_rfl
theorem Zci (a : Value) : argsOk "set_iterator.__next__" ⟨[a], []⟩ := by
 unfold argsOk; rw [signature?_of (id := "set_iterator.__next__") (n := ['_', '_', 't', 'x', 'e', 'n', '_', '_']) (o := ['r', 'o', 't', 'a', 'r', 'e', 't', 'i', '_', 't', 'e', 's']) (by kernel_rfl) ZgZ]; kernel_rfl
theorem ZfV (a : Value) : argsOk "set_iterator.__iter__" ⟨[a], []⟩ := by
 unfold argsOk; rw [signature?_of (id := "set_iterator.__iter__") (n := ['_', '_', 'r', 'e', 't', 'i', '_', '_']) (o := ['r', 'o', 't', 'a', 'r', 'e', 't', 'i', '_', 't', 'e', 's']) (by kernel_rfl) ZgZ]; kernel_rfl
section
variable {M : Model} {A : Around} {E : Value -> Shared -> Prop} {s : Shared}
theorem ZkP {src : Source} {n : Nat} {Q : Nat -> Shared -> Prop} (hn : n ≠ 0) (h : ∀ i d, i < n -> Q i { s with drawn := d }) : wpAny M A (choose src n) Q E s := fun Γ p _ => ⟨hn, h _ _ (Nat.mod_lt _ (Nat.pos_of_ne_zero hn))⟩
theorem Zln {α : Type} : ∀ (n : Nat) (xs : List α) (s : Shared) (Q : List α -> Shared -> Prop), xs.length = n -> (∀ ys d, ys.Perm xs -> Q ys { s with drawn := d }) -> wpAny M A (drawOrder n xs) Q E s
  | 0, xs, s, Q, h, q => by
    obtain rfl := List.eq_nil_of_length_eq_zero h
    exact wpAny_pure (q [] s.drawn (List.Perm.refl _))
  | n + 1, [], s, Q, h, q => by simp at h
  | n + 1, x :: r, s, Q, h, q => by
    show wpAny _ _ (choose .order (x :: r).length >>= _) _ _ s
    refine wpAny_bind (ZkP (by simp) fun i d hi => ?_)
    rw [List.getElem?_eq_getElem hi]
    dsimp only
    refine wpAny_bind (Zln n _ _ _ (by rw [List.length_eraseIdx_of_lt hi]; simp at h ⊢; lia) fun ys d' p => ?_)
    exact wpAny_pure (q _ d' ((List.Perm.cons _ p).trans (ZeJ hi)))
end
end L3
end
section
namespace L3
open PySem
noncomputable def SetIt (h : Heap) (it a : Addr) (first : Value) (i n ep : Nat) : Prop := ∃ o, h.get? it = some o /\ o.cls = .type "set_iterator" /\ o.data = .fields #[first, .int i 0, .ref a, .int n 0, .int ep 0]
theorem SetIt.typeIs {s : Shared} {it a : Addr} {first : Value} {i n ep : Nat} (x : SetIt s.heap it a first i n ep) : s.TypeIs (.ref it) "set_iterator" := let ⟨o, ho, hc, _⟩ := x; ⟨o, ho, hc⟩
theorem SetIt.there {h h' : Heap} {it a : Addr} {first : Value} {i n ep : Nat} (x : SetIt h it a first i n ep) (k : ∀ o, h.get? it = some o -> h'.get? it = some o) : SetIt h' it a first i n ep := let ⟨o, ho, r⟩ := x; ⟨o, k _ ho, r⟩
section
variable {P : Program} {w : World} {A : Around} {E : Value -> Shared -> Prop} {s : Shared} {it a : Addr} {S : Int -> Bool} {led : Bool} {o : Obj} {es : Array (Int × Value)} {ep : Nat} {t : SetTable}
theorem Zf0 {first : Value} {i n : Nat} {Q : Value -> Shared -> Prop} (hit : SetIt s.heap it a first i n ep) (h : Q (.ref it) s) : wpAny (model P w) A (pyIter (.ref it)) Q E s := by
 refine wpAny_pyIter_slot hit.typeIs ZdK (wpAny_call_entry ZdK hit.typeIs Ze9 ?_ (ZfV _))
 show wpAny _ _ (ret (.ref it)) _ _ s
 exact wpAny_pure ⟨_, rfl, "set_iterator", _, hit.typeIs, slot_si_next.lookup, h⟩
theorem Zik {slot i nx : Nat} {x : Value} {Q : Option Value -> Shared -> Prop} (hit : SetIt s.heap it a (.int slot 0) i es.size ep) (B : SB P w s.heap a S led o es ep t)
  (hx : ∀ (A : Around) (E' : Value -> Shared -> Prop) (Q' : Option (Value × Nat) -> Shared -> Prop), Q' (some (x, nx)) s -> wpAny (model P w) A (setNext a slot i ep) Q' E' s)
  (fin : ∀ h', SetIt h' it a (.int nx 0) (i + 1) es.size ep -> Heap.SameBut it s.heap h' -> Q (some x) { s with heap := h' }) : wpAny (model P w) A (pyNext (.ref it)) Q E s := by
 obtain ⟨oi, ho, hc, hd⟩ := id hit
 unfold pyNext
 refine wpAny_bind (wpAny_attempt (wpAny_callSpecial?_slot (name := Str.ofString "__next__") hit.typeIs slot_si_next (wpAny_call_entry slot_si_next hit.typeIs Zb5 ?_ (Zci _))))
 unfold Builtin.«set_iterator.__next__»
 refine wpAny_bind (wpAny_pure ?_)
 refine wpAny_bind (wpAny_fieldsOf ho hd ?_)
 dsimp only
 refine wpAny_bind (wpAny_setEntries_of B.here B.dat B.fit ?_)
 rw [if_neg (by simp)]
 simp only [Int.toNat_natCast]
 refine wpAny_bind (hx _ _ _ ?_)
 dsimp only
 refine wpAny_bind (wpAny_setField ho hd (by simp) ?_)
 have ho1 := Heap.get?_update_self (Obj.mapFields (·.setIfInBounds 0 (rawInt (nx : Int)))) ho (Obj.isFreed_of_fields (Obj.data_mapFields hd _))
 refine wpAny_bind (wpAny_setField ho1 (Obj.data_mapFields hd _) (by simp) ?_)
 have hd1 := Obj.data_mapFields hd (·.setIfInBounds 0 (rawInt (nx : Int)))
 have ho2 := Heap.get?_update_self (Obj.mapFields (·.setIfInBounds 1 (rawInt ((i : Int) + 1)))) ho1 (Obj.isFreed_of_fields (Obj.data_mapFields hd1 _))
 refine wpAny_pure ⟨_, rfl, wpAny_pure (fin _ ⟨_, ho2, ?_, ?_⟩ ((Heap.SameBut.update ..).trans (Heap.SameBut.update ..)))⟩
 ·rw [Obj.cls_mapFields, Obj.cls_mapFields]
  exact hc
 ·rw [Obj.data_mapFields hd1]
  simp [rawInt]
theorem Zij {fld : Nat} {h1 : Heap} {o1 : Obj} {vs : Array Value} {R : PySem.Fin -> Shared -> Prop} {E' : Value -> Shared -> Prop} (hh : A.handled = none) (ho : h1.get? it = some o1) (hd : o1.data = .fields vs) (hf : fld < vs.size)
  (fin : ∀ h' e, Heap.ExtBut it h1 h' -> Shared.TypeIs { s with heap := h' } e "StopIteration" -> E' e { s with heap := h' }) :
  wpAny (model P w) A (do setField (.ref it) fld .none; let e <- newExc (.type "StopIteration") []; raiseNew e) R E' { s with heap := h1 } := by
 refine wpAny_bind (wpAny_setField ho hd hf ?_)
 refine wpAny_bind ?_
 simp only [newExc, newTuple]
 refine wpAny_bind (wpAny_newObj_type ?_ (by size_fits))
 refine wpAny_bind (m := firstArgMember _ _) (wpAny_of_eq (a := Value.none) (by first | rfl | (simp only [firstArgMember]; rfl)) ?_)
 refine wpAny_newObj_type ?_ (by size_fits)
 simp only [raiseNew]
 refine wpAny_bind (wpAny_handled ?_)
 rw [hh]
 refine wpAny_bind (wpAny_pure (wpAny_throw ?_))
 exact fin _ _ (((Heap.SameBut.update ..).extBut.push _).push _) ⟨_, Heap.get?_push_size _ rfl, rfl⟩
theorem Zk4 {slot i : Nat} {Q : Option Value -> Shared -> Prop} (hh : A.handled = none) (hit : SetIt s.heap it a (.int slot 0) i es.size ep) (B : SB P w s.heap a S led o es ep t)
  (hx : ∀ (A : Around) (E' : Value -> Shared -> Prop) (Q' : Option (Value × Nat) -> Shared -> Prop), Q' none s -> wpAny (model P w) A (setNext a slot i ep) Q' E' s)
  (fin : ∀ h', Heap.ExtBut it s.heap h' -> Q none { s with heap := h' }) : wpAny (model P w) A (pyNext (.ref it)) Q E s := by
 obtain ⟨oi, ho, hc, hd⟩ := id hit
 unfold pyNext
 refine wpAny_bind (wpAny_attempt (wpAny_callSpecial?_slot (name := Str.ofString "__next__") hit.typeIs slot_si_next (wpAny_call_entry slot_si_next hit.typeIs Zb5 ?_ (Zci _))))
 unfold Builtin.«set_iterator.__next__»
 refine wpAny_bind (wpAny_pure ?_)
 refine wpAny_bind (wpAny_fieldsOf ho hd ?_)
 dsimp only
 refine wpAny_bind (wpAny_setEntries_of B.here B.dat B.fit ?_)
 rw [if_neg (by simp)]
 simp only [Int.toNat_natCast]
 refine wpAny_bind (hx _ _ _ ?_)
 dsimp only
 refine Zij (s := s) (h1 := s.heap) hh ho hd (by simp) fun h' e ext hT => ?_
 refine wpAny_bind (wpAny_isInstance (T := "StopIteration") (b := true) hT isSubtype_stop ?_)
 exact wpAny_pure (fin _ ext)
theorem ZmL {tu : Addr} {pl : List Nat} {i pn : Nat} {x : Value} {hv : Int} {Q : Option Value -> Shared -> Prop} (hit : SetIt s.heap it a (.ref tu) i es.size ep) (B : SB P w s.heap a S led o es ep t)
  (ht : s.heap.get? tu = some { cls := .type "tuple", data := .seq (pl.map fun (i : Nat) => rawInt i).toArray }) (hp : pl[i]? = some pn) (he : es[pn]? = some (hv, x))
  (fin : ∀ h', SetIt h' it a (.ref tu) (i + 1) es.size ep -> Heap.SameBut it s.heap h' -> Q (some x) { s with heap := h' }) : wpAny (model P w) A (pyNext (.ref it)) Q E s := by
 obtain ⟨oi, ho, hc, hd⟩ := id hit
 unfold pyNext
 refine wpAny_bind (wpAny_attempt (wpAny_callSpecial?_slot (name := Str.ofString "__next__") hit.typeIs slot_si_next (wpAny_call_entry slot_si_next hit.typeIs Zb5 ?_ (Zci _))))
 unfold Builtin.«set_iterator.__next__»
 refine wpAny_bind (wpAny_pure ?_)
 refine wpAny_bind (wpAny_fieldsOf ho hd ?_)
 dsimp only
 refine wpAny_bind (wpAny_setEntries_of B.here B.dat B.fit ?_)
 rw [if_neg (by simp)]
 simp only [Int.toNat_natCast]
 refine wpAny_bind ?_
 unfold seqItems?
 refine wpAny_bind (wpAny_load ht (wpAny_pure ?_))
 dsimp only
 have hpi : ((pl.map fun (i : Nat) => rawInt i).toArray)[i]? = some (.int pn 0) := by simp [hp, rawInt]
 rw [hpi]
 dsimp only
 simp only [Int.toNat_natCast]
 refine wpAny_bind ?_
 unfold setNextDrawn
 refine wpAny_bind (wpAny_setState_of B.here B.dat B.fit ?_)
 dsimp only
 rw [if_neg (by simp), he]
 refine wpAny_pure ?_
 refine wpAny_bind (wpAny_setField ho hd (by simp) ?_)
 have ho1 := Heap.get?_update_self (Obj.mapFields (·.setIfInBounds 1 (rawInt ((i : Int) + 1)))) ho (Obj.isFreed_of_fields (Obj.data_mapFields hd _))
 refine wpAny_pure ⟨_, rfl, wpAny_pure (fin _ ⟨_, ho1, ?_, ?_⟩ (Heap.SameBut.update ..))⟩
 ·rw [Obj.cls_mapFields]
  exact hc
 ·rw [Obj.data_mapFields hd]
  simp [rawInt]
theorem di_end {tu : Addr} {pl : List Nat} {i : Nat} {Q : Option Value -> Shared -> Prop} (hh : A.handled = none) (hit : SetIt s.heap it a (.ref tu) i es.size ep) (B : SB P w s.heap a S led o es ep t)
  (ht : s.heap.get? tu = some { cls := .type "tuple", data := .seq (pl.map fun (i : Nat) => rawInt i).toArray }) (hp : pl[i]? = none)
  (fin : ∀ h', Heap.ExtBut it s.heap h' -> Q none { s with heap := h' }) : wpAny (model P w) A (pyNext (.ref it)) Q E s := by
 obtain ⟨oi, ho, hc, hd⟩ := id hit
 unfold pyNext
 refine wpAny_bind (wpAny_attempt (wpAny_callSpecial?_slot (name := Str.ofString "__next__") hit.typeIs slot_si_next (wpAny_call_entry slot_si_next hit.typeIs Zb5 ?_ (Zci _))))
 unfold Builtin.«set_iterator.__next__»
 refine wpAny_bind (wpAny_pure ?_)
 refine wpAny_bind (wpAny_fieldsOf ho hd ?_)
 dsimp only
 refine wpAny_bind (wpAny_setEntries_of B.here B.dat B.fit ?_)
 rw [if_neg (by simp)]
 simp only [Int.toNat_natCast]
 refine wpAny_bind ?_
 unfold seqItems?
 refine wpAny_bind (wpAny_load ht (wpAny_pure ?_))
 dsimp only
 have hpi : ((pl.map fun (i : Nat) => rawInt i).toArray)[i]? = none := by simp [hp]
 rw [hpi]
 dsimp only
 refine wpAny_bind (wpAny_setField ho hd (by simp) ?_)
 have ho1 := Heap.get?_update_self (Obj.mapFields (·.setIfInBounds 0 (rawInt (0 : Int)))) ho (Obj.isFreed_of_fields (Obj.data_mapFields hd _))
 refine Zij (s := s) hh ho1 (Obj.data_mapFields hd _) (by simp) fun h' e ext hT => ?_
 refine wpAny_bind (wpAny_isInstance (T := "StopIteration") (b := true) hT isSubtype_stop ?_)
 exact wpAny_pure (fin _ ((Heap.SameBut.update ..).extBut.trans ext))
theorem Zfw {slot i : Nat} {Q : Option (Value × Nat) -> Shared -> Prop} (hb : byT w = true) (B : SB P w s.heap a S led o es ep t) (q : Q ((pickOrder (w.params.setOrder a ep) es)[i]?.map fun e => (e.2, slot)) s) :
  wpAny (model P w) A (setNext a slot i ep) Q E s := by
 unfold setNext
 refine wpAny_bind (wpAny_setState_of B.here B.dat B.fit ?_)
 dsimp only
 unfold setsByText
 refine wpAny_bind (wpAny_bind (wpAny_askSetting (wpAny_pure ?_)))
 show wpAny _ _ (if byT w = true then _ else _) _ _ _
 rw [if_pos hb, if_neg (by simp)]
 refine wpAny_bind ?_
 unfold setWalk
 refine wpAny_bind (wpAny_setState_of B.here B.dat B.fit ?_)
 dsimp only
 unfold setsByText
 refine wpAny_bind (wpAny_bind (wpAny_askSetting (wpAny_pure ?_)))
 show wpAny _ _ (if byT w = true then _ else _) _ _ _
 rw [if_pos hb]
 refine wpAny_bind (wpAny_askSetting (wpAny_pure ?_))
 show wpAny _ _ (pure _) _ _ _
 exact wpAny_pure q
theorem Zg4 {slot i : Nat} {Q : Option (Value × Nat) -> Shared -> Prop} (hb : byT w = false) (B : SB P w s.heap a S true o es ep t) (hn : (!t.plain && decide (es.size > 1)) = false) (q : Q (match es[SetTable.below t.place slot]?, t.place[SetTable.below t.place slot]? with | some (_, x), some j => some (x, j + 1) | _, _ => none) s) :
  wpAny (model P w) A (setNext a slot i ep) Q E s := by
 unfold setNext
 refine wpAny_bind (wpAny_setState_of B.here B.dat B.fit ?_)
 dsimp only
 unfold setsByText
 refine wpAny_bind (wpAny_bind (wpAny_askSetting (wpAny_pure ?_)))
 show wpAny _ _ (if byT w = true then _ else _) _ _ _
 rw [if_neg (by rw [hb]; exact Bool.false_ne_true)]
 show wpAny _ _ (if (!t.plain && decide (es.size > 1)) = true then _ else _) _ _ _
 rw [if_neg (by rw [hn]; exact Bool.false_ne_true)]
 refine wpAny_bind ?_
 show wpAny _ _ (if (!t.led && !es.isEmpty) = true then _ else _) _ _ _
 rw [if_neg (by rw [B.led]; simp)]
 refine wpAny_pure ?_
 exact wpAny_pure q
theorem ZjQ (hh : A.handled = none) (hne : a ≠ it) (hb : byT w = false) (hl : led = true) (tb : Tab t) (hn : (!t.plain && decide (es.size > 1)) = false) (hsz : t.place.size = es.size) :
  Walks P w A it [it, a] [it] es.size (fun i v => (es.toList.map (·.2))[i]? = some v) (fun i h => (∃ slot, SetIt h it a (.int (slot : Nat) 0) i es.size ep /\ SetTable.below t.place slot = i) /\ SB P w h a S led o es ep t) where
 sub := fun b hb => by simp at hb; simp [hb]
 frame := fun _ _ _ st hk => by
  obtain ⟨⟨slot, h1, h2⟩, h3⟩ := st
  exact ⟨⟨slot, h1.there fun o e => hk it (by simp) o e, h2⟩, h3.there fun o e => hk a (by simp) o e⟩
 item := fun i s Q E hi st hQ => by
  obtain ⟨⟨slot, h1, h2⟩, h3⟩ := st
  subst hl
  have e1 : es[i]? = some es[i] := Array.getElem?_eq_getElem hi
  have hi' : i < t.place.size := by lia
  have e2 : t.place[i]? = some t.place[i] := Array.getElem?_eq_getElem hi'
  refine Zik h1 h3 (x := es[i].2) (nx := t.place[i] + 1) (fun A' E' Q' q => Zg4 hb h3 hn ?_) fun h' hit' sb => ?_
  ·rw [h2, e1, e2]
   exact q
  ·refine hQ _ h' s.toks (by simp [hi]) ⟨⟨_, hit', ZhK tb.up e2⟩, h3.there fun o e => (sb.2 a hne).trans e⟩ fun b o hb' e => (sb.2 b (fun z => hb' (by simp [z]))).trans e
 done := fun s Q E st hQ => by
  obtain ⟨⟨slot, h1, h2⟩, h3⟩ := st
  subst hl
  refine Zk4 hh h1 h3 (fun A' E' Q' q => Zg4 hb h3 hn ?_) fun h' ext => hQ h' s.toks fun b o hb' e => ext b o (fun z => hb' (by simp [z])) e
  rw [h2, Array.getElem?_eq_none (Nat.le_refl _)]
  exact q
 self := fun _ _ _ _ st hQ => by
  obtain ⟨⟨slot, h1, h2⟩, h3⟩ := st
  exact Zf0 h1 hQ
theorem ZhS (hh : A.handled = none) (hne : a ≠ it) (hb : byT w = true) :
  Walks P w A it [it, a] [it] es.size (fun i v => ((pickOrder (w.params.setOrder a ep) es).toList.map (·.2))[i]? = some v) (fun i h => SetIt h it a (.int (0 : Nat) 0) i es.size ep /\ SB P w h a S led o es ep t) where
 sub := fun b hb => by simp at hb; simp [hb]
 frame := fun _ _ _ st hk => ⟨st.1.there fun o e => hk it (by simp) o e, st.2.there fun o e => hk a (by simp) o e⟩
 item := fun i s Q E hi st hQ => by
  obtain ⟨h1, h3⟩ := st
  have hpl : (pickOrder (w.params.setOrder a ep) es).size = es.size := by
   have := (Zeb (w.params.setOrder a ep) es).length_eq
   simpa using this
  have hi' : i < (pickOrder (w.params.setOrder a ep) es).size := by lia
  have e1 := Array.getElem?_eq_getElem hi'
  refine Zik h1 h3 (x := (pickOrder (w.params.setOrder a ep) es)[i].2) (nx := 0) (fun A' E' Q' q => Zfw hb h3 ?_) fun h' hit' sb => ?_
  ·rw [e1]
   exact q
  ·refine hQ _ h' s.toks (by simp [hi']) ⟨hit', h3.there fun o e => (sb.2 a hne).trans e⟩ fun b o hb' e => (sb.2 b (fun z => hb' (by simp [z]))).trans e
 done := fun s Q E st hQ => by
  obtain ⟨h1, h3⟩ := st
  have hpl : (pickOrder (w.params.setOrder a ep) es).size = es.size := by
   have := (Zeb (w.params.setOrder a ep) es).length_eq
   simpa using this
  refine Zk4 hh h1 h3 (fun A' E' Q' q => Zfw hb h3 ?_) fun h' ext => hQ h' s.toks fun b o hb' e => ext b o (fun z => hb' (by simp [z])) e
  rw [Array.getElem?_eq_none (by lia)]
  exact q
 self := fun _ _ _ _ st hQ => Zf0 st.1 hQ
theorem Zhm {tu : Addr} {pl : List Nat} (hh : A.handled = none) (hne : a ≠ it) (hne2 : tu ≠ it) (hp : pl.Perm (List.range es.size)) :
    Walks P w A it [it, a, tu] [it] es.size (fun i v => (pl.filterMap fun j => es[j]?.map (·.2))[i]? = some v) (fun i h => SetIt h it a (.ref tu) i es.size ep /\ SB P w h a S led o es ep t /\ h.get? tu = some { cls := .type "tuple", data := .seq (pl.map fun (i : Nat) => rawInt i).toArray }) where
  sub := fun b hb => by simp at hb; simp [hb]
  frame := fun _ _ _ st hk => ⟨st.1.there fun o e => hk it (by simp) o e, st.2.1.there fun o e => hk a (by simp) o e, hk tu (by simp) _ st.2.2⟩
  item := fun i s Q E hi st hQ => by
    obtain ⟨h1, h3, h4⟩ := st
    have hl : pl.length = es.size := by
      have := hp.length_eq
      simpa using this
    have hi' : i < pl.length := by lia
    have hlt : pl[i] < es.size := by
      have := hp.mem_iff.mp (List.getElem_mem hi')
      simpa using this
    have e1 := List.getElem?_eq_getElem hi'
    have e2 := Array.getElem?_eq_getElem hlt
    have all : ∀ (l : List Nat), (∀ j ∈ l, j < es.size) -> (l.filterMap fun j => es[j]?.map (·.2)) = l.map fun j => (es[j]?.map (·.2)).getD .none := by
      intro l
      induction l with
      | nil => intro _; rfl
      | cons j l ih =>
        intro hj
        have hj0 := hj j List.mem_cons_self
        rw [List.filterMap_cons_some (b := es[j].2) (by simp [hj0]), List.map_cons, ih fun k hk => hj k (List.mem_cons_of_mem _ hk)]
        simp [hj0]
    refine ZmL h1 h3 h4 e1 (hv := es[pl[i]].1) (x := es[pl[i]].2) e2 fun h' hit' sb => ?_
    refine hQ _ h' s.toks ?_ ⟨hit', h3.there fun o e => (sb.2 a hne).trans e, (sb.2 tu hne2).trans h4⟩ fun b o hb' e => (sb.2 b (fun z => hb' (by simp [z]))).trans e
    rw [all pl fun j hj => by simpa using hp.mem_iff.mp hj, List.getElem?_map, e1]
    simp [hlt]
  done := fun s Q E st hQ => by
    obtain ⟨h1, h3, h4⟩ := st
    have hl : pl.length = es.size := by
      have := hp.length_eq
      simpa using this
    exact di_end hh h1 h3 h4 (List.getElem?_eq_none (by lia)) fun h' ext => hQ h' s.toks fun b o hb' e => ext b o (fun z => hb' (by simp [z])) e
  self := fun _ _ _ _ st hQ => Zf0 st.1 hQ
theorem iter_T {Q : Value -> Shared -> Prop} (B : SB P w s.heap a S (!byT w) o es ep t)
    (fin : ∀ (h' : Heap) (d' : Drawn) (I : Addr) (vs : List Value) (fp : List Addr) (St : Nat -> Heap -> Prop), (∀ b ob, s.heap.get? b = some ob -> h'.get? b = some ob) -> vs.Perm (es.toList.map (·.2)) -> s.heap.objs.size <= I -> (∀ b ∈ fp, b = a \/ s.heap.objs.size <= b) -> I < h'.objs.size ->
      (∀ A' : Around, A'.handled = none -> Walks P w A' I fp [I] vs.length (fun i v => vs[i]? = some v) St) -> St 0 h' -> Q (.ref I) { s with heap := h', drawn := d' }) :
    wpAny (model P w) A (pyIter (.ref a)) Q E s := by
  have hT : s.TypeIs (.ref a) "set" := ⟨o, B.here, B.ex.1⟩
  have halt := Heap.lt_size B.here
  have hsz : t.place.size = es.size := by
    have := B.fit
    simp only [SetTable.fits, Bool.and_eq_true, beq_iff_eq] at this
    exact this.1
  refine wpAny_pyIter_slot hT F.slot_set_iter (wpAny_call_entry F.slot_set_iter hT ZfH ?_ (F.args_set_iter_1 _))
  unfold Builtin.«frozenset.__iter__»
  refine wpAny_bind (wpAny_pure ?_)
  refine wpAny_bind ?_
  unfold Builtin.Frozenset.sizeOf
  refine wpAny_bind (wpAny_setEntries_of B.here B.dat B.fit (wpAny_pure ?_))
  refine wpAny_bind ?_
  unfold setDrawn
  refine wpAny_bind (wpAny_setState_of B.here B.dat B.fit ?_)
  dsimp only
  unfold setsByText
  refine wpAny_bind (wpAny_bind (wpAny_askSetting (wpAny_pure ?_)))
  refine wpAny_pure ?_
  show wpAny _ _ (if (!byT w && (!t.plain && decide (es.size > 1))) = true then _ else _) _ _ _
  by_cases hdr : (!byT w && (!t.plain && decide (es.size > 1))) = true
  · rw [if_pos hdr]
    refine wpAny_bind (Zln es.size (List.range es.size) s _ (by simp) fun pl d' hp => ?_)
    have hl : pl.length = es.size := by
      have := hp.length_eq
      simpa using this
    refine wpAny_bind (wpAny_newTuple ?_ (by rw [List.length_map, hl]; exact fits_of_scanBound B.few))
    refine wpAny_bind (wpAny_setEpoch_of (Heap.get?_push_of_some _ B.here) B.dat B.fit ?_)
    unfold newFields
    refine wpAny_bind (wpAny_newObj_type ?_)
    refine wpAny_pure ⟨_, rfl, "set_iterator", _, ⟨_, Heap.get?_push_size _ rfl, rfl⟩, slot_si_next.lookup, ?_⟩
    have hgt : ∀ b ob, s.heap.get? b = some ob -> ((s.heap.push { cls := .type "tuple", data := .seq (pl.map fun (i : Nat) => rawInt i).toArray }).push { cls := .type "set_iterator", data := .fields [Value.ref s.heap.objs.size, rawInt 0, .ref a, rawInt es.size, rawInt ep].toArray }).get? b = some ob :=
      fun b ob e => Heap.get?_push_of_some _ (Heap.get?_push_of_some _ e)
    have hvs : (pl.filterMap fun j => es[j]?.map (·.2)).Perm (es.toList.map (·.2)) := by
      have h1 := hp.filterMap fun j => es[j]?.map (·.2)
      refine h1.trans (List.Perm.of_eq ?_)
      have h2 := congrArg (List.map (·.2)) (filterMap_getElem?_range es)
      rw [<- h2, List.map_filterMap]
    have hvl : (pl.filterMap fun j => es[j]?.map (·.2)).length = es.size := by
      have := hvs.length_eq
      simpa using this
    refine fin _ d' (s.heap.push { cls := .type "tuple", data := .seq (pl.map fun (i : Nat) => rawInt i).toArray }).objs.size (pl.filterMap fun j => es[j]?.map (·.2)) [(s.heap.push { cls := .type "tuple", data := .seq (pl.map fun (i : Nat) => rawInt i).toArray }).objs.size, a, s.heap.objs.size] (fun i h => SetIt h (s.heap.push { cls := .type "tuple", data := .seq (pl.map fun (i : Nat) => rawInt i).toArray }).objs.size a (.ref s.heap.objs.size) i es.size ep /\ SB P w h a S (!byT w) o es ep t /\ h.get? s.heap.objs.size = some { cls := .type "tuple", data := .seq (pl.map fun (i : Nat) => rawInt i).toArray })
      hgt hvs (by rw [Heap.size_push]; exact Nat.le_succ _) (fun b hb => ?_) (Heap.lt_size (Heap.get?_push_size _ rfl)) (fun A' hh => ?_) ⟨⟨_, Heap.get?_push_size _ rfl, rfl, rfl⟩, B.there fun ob e => hgt _ _ e, Heap.get?_push_of_some _ (Heap.get?_push_size _ rfl)⟩
    · simp only [List.mem_cons, List.not_mem_nil, or_false] at hb
      rcases hb with rfl | rfl | rfl
      · right; rw [Heap.size_push]; exact Nat.le_succ _
      · exact .inl rfl
      · exact .inr (Nat.le_refl _)
    · rw [hvl]
      exact Zhm hh (by rw [Heap.size_push]; exact Nat.ne_of_lt (Nat.lt_succ_of_lt halt)) (by rw [Heap.size_push]; exact Nat.ne_of_lt (Nat.lt_succ_self _)) hp
  · rw [if_neg hdr]
    refine wpAny_bind (wpAny_pure ?_)
    refine wpAny_bind (wpAny_setEpoch_of B.here B.dat B.fit ?_)
    unfold newFields
    refine wpAny_bind (wpAny_newObj_type ?_)
    refine wpAny_pure ⟨_, rfl, "set_iterator", _, ⟨_, Heap.get?_push_size _ rfl, rfl⟩, slot_si_next.lookup, ?_⟩
    have hgt : ∀ b ob, s.heap.get? b = some ob -> (s.heap.push { cls := .type "set_iterator", data := .fields [rawInt 0, rawInt 0, .ref a, rawInt es.size, rawInt ep].toArray }).get? b = some ob :=
      fun b ob e => Heap.get?_push_of_some _ e
    have hfp : ∀ b ∈ [s.heap.objs.size, a], b = a \/ s.heap.objs.size <= b := fun b hb => by
      simp only [List.mem_cons, List.not_mem_nil, or_false] at hb
      rcases hb with rfl | rfl
      · exact .inr (Nat.le_refl _)
      · exact .inl rfl
    cases hb : byT w with
    | true =>
      have hvs : ((pickOrder (w.params.setOrder a ep) es).toList.map (·.2)).Perm (es.toList.map (·.2)) := (Zeb _ es).map _
      have hvl : ((pickOrder (w.params.setOrder a ep) es).toList.map (·.2)).length = es.size := by
        have := hvs.length_eq
        simpa using this
      refine fin _ s.drawn _ ((pickOrder (w.params.setOrder a ep) es).toList.map (·.2)) [s.heap.objs.size, a] (fun i h => SetIt h s.heap.objs.size a (.int (0 : Nat) 0) i es.size ep /\ SB P w h a S (!byT w) o es ep t) hgt hvs (Nat.le_refl _) hfp (by rw [Heap.size_push]; exact Nat.lt_succ_self _) (fun A' hh => ?_) ⟨⟨_, Heap.get?_push_size _ rfl, rfl, rfl⟩, B.there fun ob e => hgt _ _ e⟩
      rw [hvl]
      exact ZhS hh (Nat.ne_of_lt halt) hb
    | false =>
      have hn : (!t.plain && decide (es.size > 1)) = false := by
        rw [hb] at hdr
        simpa using hdr
      refine fin _ s.drawn _ (es.toList.map (·.2)) [s.heap.objs.size, a] (fun i h => (∃ slot, SetIt h s.heap.objs.size a (.int (slot : Nat) 0) i es.size ep /\ SetTable.below t.place slot = i) /\ SB P w h a S (!byT w) o es ep t) hgt (List.Perm.refl _) (Nat.le_refl _) hfp (by rw [Heap.size_push]; exact Nat.lt_succ_self _) (fun A' hh => ?_)
        ⟨⟨0, ⟨_, Heap.get?_push_size _ rfl, rfl, rfl⟩, ZgB B.tab.up⟩, B.there fun ob e => hgt _ _ e⟩
      have hvl : (es.toList.map (·.2)).length = es.size := by simp
      rw [hvl]
      exact ZjQ hh (Nat.ne_of_lt halt) hb (by rw [hb]; rfl) B.tab hn hsz
end
end L3
end
section
namespace L3
open PySem PyProof.Rows
section
variable {P : Program} {w : World} {A : Around} {E : Value -> Shared -> Prop} {s : Shared}
theorem Zhy {wr : List Addr} {s s' : Shared} (mv : Moved wr (fun a b => b = a) s s') : s' = { s with heap := s'.heap, toks := s'.toks } := by
 obtain ⟨_, h1, h2, h3, _⟩ := mv
 obtain ⟨hp, g, d, tk, os⟩ := s'
 cases h1; cases h2; cases h3
 rfl
theorem hint_T {r : Addr} {Q : Bool -> Shared -> Prop} (hT : s.TypeIs (.ref r) "set") (h : Q false s) : wpAny (model P w) A (Builtin.List.listLengthHint (.ref r)) Q E s := by
 unfold Builtin.List.listLengthHint
 refine wpAny_bind (wpAny_specialOf hT PySem.F.slot_set_len.lookup ?_)
 generalize hid : ("set.__len__" : String) = id0
 wp_delta
 rw [show splitId id0 = some ("set", "__len__") from by subst hid; decide +kernel]
 subst hid
 refine wpAny_bind (wpAny_isInstance (T := "set") (b := true) hT (by rw [isSubtype_type]; kernel_rfl) ?_)
 refine wpAny_ite_split (fun hab => absurd hab (by decide)) (fun _ => ?_)
 refine wpAny_ite_split (fun _ => ?_) (fun hab => absurd (by decide +kernel) hab)
 refine wpAny_bind (wpAny_typeOf hT ?_)
 exact wpAny_pure h
theorem ZkK {a L : Addr} {S : Int -> Bool} {o : Obj} {es : Array (Int × Value)} {ep c₀ : Nat} {t : SetTable} {res : Value} {R : Result -> Shared -> Prop} (hh : A.handled = none) (B : SB P w s.heap a S (!byT w) o es ep t) (nL : L ≠ a)
  (hL : s.heap.get? L = some { cls := .type "list", data := .seq #[] c₀ })
  (fin : ∀ (h' : Heap) (tk : Nat) (d' : Drawn) (acc : Array Value) (c' : Nat), (∀ b ob, b ≠ L -> s.heap.get? b = some ob -> h'.get? b = some ob) -> h'.get? L = some { cls := .type "list", dict := none, data := .seq acc c', slots := #[] } -> acc.toList.Perm (es.toList.map (·.2)) -> R (.ok (.ret res)) { s with heap := h', toks := tk, drawn := d' }) :
  wpAny (model P w) A.in1 (Builtin.List.listExtendWith (.ref L) (.ref a) res)
   (fun fin' s' => match fin' with | .done f => R (.ok f) s' | .again c₁ => c₁.quiet = true /\ codeAny (model P w) A c₁ R s') (fun e s' => R (.error e) s') s := by
 have hT : s.TypeIs (.ref a) "set" := ⟨o, B.here, B.ex.1⟩
 have hLlt := Heap.lt_size hL
 unfold Builtin.List.listExtendWith
 refine wpAny_bind (wpAny_typeOf (T := "set") hT ?_)
 have h1 : Builtin.List.listSameRef (.ref L) (.ref a) = false := by simp [Builtin.List.listSameRef, nL]
 have h2 : (Value.type "set" == Value.type "list") = false := by decide
 have h3 : (Value.type "set" == Value.type "tuple") = false := by decide
 simp only [h1, h2, h3, Bool.or_false, Bool.false_eq_true, if_false]
 refine wpAny_bind (iter_T B fun h₁ d₁ I vs fp St kp pv hI hfp hI2 W st => ?_)
 have hL₁ := kp _ _ hL
 have nLI : L ≠ I := Nat.ne_of_lt (Nat.lt_of_lt_of_le hLlt hI)
 have nLf : L ∉ fp := fun z => by
  rcases hfp L z with e | e
  ·exact nL e
  ·exact absurd hLlt (Nat.not_lt.mpr e)
 have hvl : vs.length <= sizeLine := by
  have := pv.length_eq
  have h5 := fits_of_scanBound B.few
  simp at this
  lia
 have key : ∀ (h₂ : Heap) (c₁ : Nat), St 0 h₂ -> (∀ b ob, b ≠ L -> s.heap.get? b = some ob -> h₂.get? b = some ob) -> h₂.get? L = some { cls := .type "list", data := .seq #[] c₁ } ->
   codeAny (model P w) A (.builtin "list.extend.loop" ⟨[.ref L, .ref I, res], []⟩) R { s with heap := h₂, drawn := d₁ } := by
  intro h₂ c₁ st₂ k₂ hL₂
  refine codeAny_extend_loopS (W A.in1 hh).toS hvl L nLf res vs.length 0 _ #[] c₁ rfl (Nat.zero_le _) st₂ hL₂ (ItemsOf.nil _) fun s' acc c' mv hL' it => ?_
  rw [Zhy mv]
  refine fin s'.heap s'.toks d₁ acc c' (fun b ob hb e => mv.heap b ob (fun z => ?_) (k₂ b ob hb e)) hL' ?_
  ·rcases List.mem_cons.mp z with e' | z
   ·exact hb e'
   ·rw [List.mem_singleton.mp z] at e
    exact absurd (Heap.lt_size e) (Nat.not_lt.mpr hI)
  ·refine (List.Perm.of_eq (List.ext_getElem? fun j => ?_)).trans pv
   rw [Array.getElem?_toList]
   by_cases hj : j < acc.size
   ·have e1 := Array.getElem?_eq_getElem hj
    rw [e1]
    exact (it.2 j _ e1).symm
   ·rw [Array.getElem?_eq_none (by lia), List.getElem?_eq_none]
    have := it.1
    lia
 refine wpAny_bind (wpAny_holding (hint_T ⟨o, kp _ _ B.here, B.ex.1⟩ ?_))
 refine wpAny_ite_split (fun _ => ?_) (fun _ => wpAny_pure ⟨plainId_quiet PySem.F.plain_extend_loop _, key _ c₀ st (fun b ob _ e => kp _ _ e) hL₁⟩)
 refine wpAny_bind (wpAny_rule ?_)
 refine wpAny_bind ?_
 show wpAny _ _ (updateSeq L (·.push .none) >>= fun _ => updateSeq L (·.pop)) _ _ _
 refine wpAny_bind (wpAny_updateSeq hL₁ rfl ?_)
 have hL₂ := Heap.get?_update_self (Obj.mapSeq (·.push Value.none)) hL₁ rfl
 refine wpAny_updateSeq (hz := by seq_fits) hL₂ rfl ?_
 have hL₃ := Heap.get?_update_self (Obj.mapSeq (·.pop)) hL₂ rfl
 have up : ∀ b ob, b ≠ L -> h₁.get? b = some ob -> ((h₁.update L (Obj.mapSeq (·.push Value.none))).update L (Obj.mapSeq (·.pop))).get? b = some ob := fun b ob hb e => (Heap.get?_update_other _ _ (Ne.symm hb)).trans ((Heap.get?_update_other _ _ (Ne.symm hb)).trans e)
 exact wpAny_pure ⟨plainId_quiet PySem.F.plain_extend_loop _, key _ _ ((W A.in1 hh).frame 0 _ _ st fun b hb ob e => up b ob (fun z => nLf (z ▸ hb)) e) (fun b ob hb e => up b ob hb (kp _ _ e)) hL₃⟩
theorem collect_T {a : Addr} {S : Int -> Bool} {o : Obj} {es : Array (Int × Value)} {ep : Nat} {t : SetTable} {R : List Value -> Shared -> Prop} (hh : A.handled = none) (B : SB P w s.heap a S (!byT w) o es ep t)
    (fin : ∀ (h' : Heap) (tk : Nat) (d' : Drawn) (acc : Array Value), (∀ b ob, s.heap.get? b = some ob -> h'.get? b = some ob) -> acc.toList.Perm (es.toList.map (·.2)) -> R acc.toList { s with heap := h', toks := tk, drawn := d' }) :
    wpAny (model P w) A (collect (.ref a)) R E s := by
  have halt := Heap.lt_size B.here
  unfold collect
  refine wpAny_bind (wpAny_runValue (codeAny_builtin entry_proto_collect' ?_))
  rw [Around.under_plainId PySem.F.plain_proto_collect _]
  show wpAny _ A.in1 (newList [] >>= fun l => again (.builtin "list.__iadd__" ⟨[l, .ref a], []⟩)) _ _ s
  refine wpAny_bind (wpAny_newObj_type ?_)
  refine wpAny_pure ⟨plainId_quiet PySem.F.plain_list_iadd _, codeAny_builtin entry_list_iadd' ?_⟩
  rw [Around.under_plainId PySem.F.plain_list_iadd _]
  have hL : (s.heap.push { cls := .type "list", data := .seq ([] : List Value).toArray }).get? s.heap.objs.size = some { cls := .type "list", data := .seq #[] } := Heap.get?_push_size _ rfl
  show wpAny _ A.in1 (Builtin.List.listExtendWith (.ref s.heap.objs.size) (.ref a) (.ref s.heap.objs.size)) _ _ _
  have key := ZkK (A := A) (s := { s with heap := s.heap.push { cls := .type "list", data := .seq ([] : List Value).toArray } }) (res := .ref s.heap.objs.size)
    (R := fun (q : Result) (s' : Shared) => ∃ (h' : Heap) (tk : Nat) (d' : Drawn) (acc : Array Value) (c' : Nat), q = .ok (.ret (.ref s.heap.objs.size)) /\ s' = { s with heap := h', toks := tk, drawn := d' } /\
      (∀ b ob, s.heap.get? b = some ob -> h'.get? b = some ob) /\ h'.get? s.heap.objs.size = some { cls := .type "list", dict := none, data := .seq acc c', slots := #[] } /\ acc.toList.Perm (es.toList.map (·.2)))
    hh (B.there fun ob e => Heap.get?_push_of_some _ e) (Nat.ne_of_gt halt) hL
    (fun h' tk d' acc c' k1 k2 k3 => ⟨h', tk, d', acc, c', rfl, rfl, fun b ob e => k1 b ob (Nat.ne_of_lt (Heap.lt_size e)) (Heap.get?_push_of_some _ e), k2, k3⟩)
  refine wpAny_mono key (fun f s' x => ?_) fun e s' x => ?_
  · cases f with
    | done f =>
      obtain ⟨h', tk, d', acc, c', e, rfl, k1, k2, k3⟩ := x
      cases e
      show wpAny _ A (load s.heap.objs.size >>= _) _ _ _
      refine wpAny_bind (wpAny_load k2 ?_)
      exact wpAny_pure (fin h' tk d' acc k1 k3)
    | again c₁ =>
      refine ⟨x.1, codeAny_mono x.2 fun q s₂ y => ?_⟩
      obtain ⟨h', tk, d', acc, c', rfl, rfl, k1, k2, k3⟩ := y
      show wpAny _ A (load s.heap.objs.size >>= _) _ _ _
      refine wpAny_bind (wpAny_load k2 ?_)
      exact wpAny_pure (fin h' tk d' acc k1 k3)
  · obtain ⟨_, _, _, _, _, e', _⟩ := x
    cases e'
noncomputable def dd (ns : List Int) : List Int := firstMet (fun i => ns.getD i 0) ns.length
theorem Zhr {σ : List Int} {v : Int} (h : σ.Nodup) : (step_dedup σ v).Nodup := by
 unfold step_dedup
 split
 ·exact h
 ·rename_i hn
  refine List.nodup_append.mpr ⟨h, by simp, fun a ha b hb e => ?_⟩
  obtain rfl := List.mem_singleton.mp hb
  subst e
  exact hn (List.any_eq_true.mpr ⟨a, ha, by simp⟩)
theorem Zem (val : Nat -> Int) : ∀ i, (firstMet val i).Nodup
 | 0 => by rw [firstMet_zero]; exact List.nodup_nil
 | i + 1 => by rw [firstMet_succ]; exact Zhr (Zem val i)
theorem dd_nodup (ns : List Int) : (dd ns).Nodup := Zem _ _
theorem Zky (ns : List Int) : (List.range ns.length).map (fun i => ns.getD i 0) = ns := by
 refine List.ext_getElem? fun j => ?_
 by_cases h : j < ns.length
 ·simp [h]
 ·rw [List.getElem?_eq_none (by simp; lia), List.getElem?_eq_none (by lia)]
theorem dd_mem {ns : List Int} {k : Int} : k ∈ dd ns ↔ k ∈ ns := by
 have h := firstMet_any (fun i => ns.getD i 0) ns.length k
 rw [Zky] at h
 have e : ∀ l : List Int, l.any (· == k) = true ↔ k ∈ l := fun l => by simp
 rw [<- e ns, <- h, e]
 rfl
theorem elems_T {ns : List Int} {h : Heap} {a : Addr} {o : Obj} {es : Array (Int × Value)} {ep : Nat} {t : SetTable} {led : Bool} {acc : List Value} (B : SB P w h a (fun k' => (dd ns).any (· == k')) led o es ep t) (hn : es.size = (dd ns).length) (hp : acc.Perm (es.toList.map (·.2))) :
    ∃ ks, IntsAre acc ks /\ ks.Perm (dd ns) := by
  have one : ∀ e ∈ es.toList, ∃ k tk, e.2 = .int k tk := fun e he => by
    obtain ⟨⟨k, hk, _⟩, _⟩ := B.el e he
    obtain ⟨tk, q⟩ := Value.isInt_shape (k := k) (v := e.2) hk
    exact ⟨k, tk, q⟩
  have allI : ∀ (l : List Value), (∀ v ∈ l, ∃ k tk, v = Value.int k tk) -> IntsAre l (l.map numOf) := by
    intro l
    induction l with
    | nil => intro _; exact .nil
    | cons v l ih =>
      intro hv
      obtain ⟨k, tk, rfl⟩ := hv v List.mem_cons_self
      exact .cons k tk (ih fun u hu => hv u (List.mem_cons_of_mem _ hu))
  refine ⟨acc.map numOf, allI acc fun v hv => ?_, (hp.map numOf).trans ?_⟩
  · obtain ⟨e, he, rfl⟩ := List.mem_map.mp (hp.mem_iff.mp hv)
    exact one e he
  · refine Zec (dd_nodup ns) (fun k hk => ?_) (by simp; lia)
    have : (dd ns).any (· == k) = true := List.any_eq_true.mpr ⟨k, hk, by simp⟩
    obtain ⟨e, he, q⟩ := (B.mem k).mp this
    obtain ⟨tk, q⟩ := Value.isInt_shape (k := k) (v := e.2) q
    refine List.mem_map.mpr ⟨e.2, List.mem_map_of_mem he, ?_⟩
    rw [q]
    rfl
end
end L3
end
section
namespace L2
open PySem PySem.Spec PyProof.Rows
noncomputable def rIsN : R2 := fun x y H Q => y = .non /\ Q (.bl (decide (x = .non))) H
theorem ZiQ {X : Cx} : OpR X (compareOp .Is) rIsN := op_isN
theorem rd_isN {x : V} {H : Hp} {Q : VK} (q : Q (.bl (decide (x = .non))) H) : rIsN x .non H Q := ⟨rfl, q⟩
theorem sIx_nat (n d k : Nat) : HT.sIx n d (some (k : Int)) = min k n := by
 simp only [HT.sIx]
 rw [if_neg (by lia)]
 simp
theorem ZeK {xs : List V} {k : Nat} (h : k <= xs.length) : cutV xs none (some (k : Int)) = xs.take k := by
 unfold cutV
 have e1 : HT.sIx xs.length 0 none = 0 := rfl
 have e2 : HT.sIx xs.length xs.length (some (k : Int)) = k := by
  rw [sIx_nat]
  lia
 rw [e1, e2]
 simp
theorem Zch {xs : List V} {k : Nat} (h : k <= xs.length) : cutV xs (some (k : Int)) none = xs.drop k := by
 unfold cutV
 have e1 : HT.sIx xs.length 0 (some (k : Int)) = k := by
  rw [sIx_nat]
  lia
 have e2 : HT.sIx xs.length xs.length none = xs.length := rfl
 rw [e1, e2]
 simp [List.take_of_length_le]
theorem Reps.take {H : Hp} : ∀ {ds : List D} {vs : List V} (n : Nat), Reps H ds vs -> Reps H (ds.take n) (vs.take n)
  | _, _, 0, _ => by simp; exact ZaE
  | [], vs, n + 1, h => by rw [Zbe h]; simp; exact ZaE
  | d :: ds, vs, n + 1, h => by
    obtain ⟨v, r, rfl, h1, h2⟩ := Zat h
    exact Zap h1 (Reps.take n h2)
theorem Reps.drop {H : Hp} : ∀ {ds : List D} {vs : List V} (n : Nat), Reps H ds vs -> Reps H (ds.drop n) (vs.drop n)
  | _, _, 0, h => h
  | [], vs, n + 1, h => by rw [Zbe h]; simp; exact ZaE
  | d :: ds, vs, n + 1, h => by
    obtain ⟨v, r, rfl, h1, h2⟩ := Zat h
    exact Reps.drop n h2
section
variable {X : Cx}
end
noncomputable def Zf1 (P : Program) (w : World) (p : Addr) (ns : List Int) : HO := .ext fun h => L3.SetT P w h p (fun k' => (L3.dd ns).any (· == k')) (L3.dd ns).length (!L3.byT w)
noncomputable def Zmb (P : Program) (w : World) (K : PySem.W.Frag) : List V -> Hp -> VK -> Prop := fun xs H Q => ∃ a ns, xs = [.ref a] /\ SqL K H a ((ns : List Int).map V.int) /\ ns.length < 4095 /\ ∀ p, H p = none -> Q (.ref p) (upd H p (Zf1 P w p ns))
theorem ZlL {P : Program} {w : World} {K : PySem.W.Frag} {H : Hp} {a : Addr} {ns : List Int} {Q : VK} (h : SqL K H a (ns.map V.int)) (hl : ns.length < 4095) (q : ∀ p, H p = none -> Q (.ref p) (upd H p (Zf1 P w p ns))) : Zmb P w K [.ref a] H Q := ⟨a, ns, rfl, h, hl, q⟩
section
variable {X : Cx}
theorem Zjw (hc : X.calm = true) : ZbU X (.type "set") (Zmb X.prog X.w X.K) := by
 intro pins s σ H xs us Q I r h
 obtain ⟨a, ns, rfl, ha, hl, q⟩ := h
 obtain ⟨u, rfl, ru⟩ := Zev r
 cases ru
 obtain ⟨its, vx, ht, hz⟩ := I.list ha
 have hi := ZhB vx
 have hlen : its.toArray.size = ns.length := by
  have := vx.length
  simp at this ⊢
  lia
 refine L3.set_T (I.ok.hd hc) ht.isList (by simpa using hi) (by rw [hlen]; unfold scanBound; lia) fun h' tk hS keep => ?_
 rw [hlen] at hS
 have keep' : ∀ b ob, s.heap.get? b = some ob -> h'.get? b = some ob := fun b ob e => keep b ob (Heap.lt_size e) e
 refine ⟨.ref s.heap.objs.size, _, I.laid (o := Zf1 X.prog X.w s.heap.objs.size ns) keep' (Nat.le_refl _) ?_, rfl, q _ (I.hok.fresh (Nat.le_refl _))⟩
 obtain ⟨o, es, ep, t, B, e⟩ := id hS
 exact ⟨hS, ⟨o, B.here⟩, fun h1 h2 x k => x.there k⟩
theorem k_setW {P : Program} {w : World} {K : PySem.W.Frag} (h : X.K = K) (h1 : X.prog = P) (h2 : X.w = w) (hc : X.calm = true) : ZbU X (.type "set") (Zmb P w K) := h ▸ h1 ▸ h2 ▸ Zjw hc
end
theorem Zj6 {K : PySem.W.Frag} {H : Hp} {a b : Addr} {xs : List V} {ds : List D} {Q : VK} (h1 : SqL K H a xs) (r : Reps H ds xs) (pd : D.pls ds = true) (hd : D.deps ds <= 40) (h2 : H b = some (.lst [])) (q : Q (.bl (!decide (ds = []))) H) : rNeL K (.ref a) (.ref b) H Q := by
 refine ⟨a, b, xs, [], ds, [], rfl, rfl, h1, SqL.of h2, r, ZaE, pd, rfl, hd, ?_⟩
 have e : eqD (.tup ds) (.tup []) = decide (ds = []) := by
  by_cases h : ds = []
  ·subst h
   rw [Zb4]
   simp
  ·rw [ZaP (by intro z; cases z; exact h rfl)]
   simp [h]
 rw [e]
 exact q
end L2
end
section
namespace L2
open PySem PySem.Spec PyProof.Rows
noncomputable def Its (x : Str) : It := ⟨fun i _ => i < x.cps.size, fun i H v H' => H' = H /\ ∃ c, x.cps[i]? = some c /\ v = .str ⟨#[c]⟩, fun i _ => x.cps.size <= i⟩
theorem ZjT {P : Program} {w : World} {K : PySem.W.Frag} {tg : Expr} (x : Str) (t : Tok) (it : Addr) : Turn P w K tg (Its x) [it] it (fun i h => h.IsStrIter it "str_ascii_iterator" x t i) where
 mem := by simp
 obj := fun i h st b hb => by
  have e : b = it := by simpa using hb
  subst e
  obtain ⟨o, e, c, d⟩ := st
  exact ⟨o, e, fun v z => by rw [d] at z; cases z⟩
 keep := fun i h h' st k => by
  obtain ⟨o, e, c, d⟩ := st
  exact ⟨o, k it (by simp) o e, c, d⟩
 item := by
  intro X hP hw hK hc i pins s σ H E I hf st hg
  subst hP hw hK
  have hg : i < x.cps.size := hg
  obtain ⟨f0, f1, f2, f3, f4, f5⟩ := hf it (by simp)
  have hx : x.cps[i]? = some x.cps[i] := Array.getElem?_eq_getElem hg
  refine wpAny_pyNext_ascii_item st hx fun h' st' sb => ?_
  have I1 : Inv X pins σ H { s with heap := h', toks := s.toks + 1 } := I.turned (t' := s.toks + 1) (fun b o hb e => (sb.2 b hb).trans e) f0 f1 f3 f4 f5
  obtain ⟨o, e, c, d⟩ := id st'
  exact ⟨_, rfl, ZkH (s := { s with heap := h', toks := s.toks + 1 }) e c d (by decide) ⟨.str ⟨#[x.cps[i]]⟩, H, I1, ⟨_, rfl⟩, ⟨rfl, _, hx, rfl⟩, st', fun b hb => (hf b hb).1⟩⟩
 done := by
  intro X hP hw hK hc i pins s σ H E I hf st hg
  subst hP hw hK
  have hg : x.cps.size <= i := hg
  obtain ⟨f0, f1, f2, f3, f4, f5⟩ := hf it (by simp)
  exact wpAny_pyNext_ascii_end (I.ok.hd hc) st (Array.getElem?_eq_none hg) fun h' eb => ⟨rfl, I.turned (t' := s.toks) (fun b o hb e => eb b o hb e) f0 f1 f3 f4 f5⟩
 self := fun _ _ _ _ _ st h => wpAny_pyIter_striter_ascii st h
section
variable {X : Cx} {tg : Expr}
noncomputable def iStr (tl : TE) : TI := fun σ H R => tl σ H fun x H1 => ∃ z, x = .str z /\ z.cps.all (· < 128) = true /\ R (Its z) H1
theorem pi_str {l : Expr} {tl : TE} (hl : PE X l tl) : PI X tg l (iStr tl) := by
 intro pins s σ H R I h
 refine thn (hl pins s σ H _ I h) fun v s1 ⟨x, H1, I1, r1, q1⟩ => ?_
 obtain ⟨z, e, ha, q⟩ := q1
 subst e
 obtain ⟨t, rfl⟩ := r1
 refine wpAny_pyIter_ascii ha ?_
 refine ⟨s1.heap.objs.size, [s1.heap.objs.size], _, _, H1, rfl, I1.kept (t' := s1.toks) fun b o e => Heap.get?_push_of_some _ e, ZjT z t _, ⟨_, Heap.get?_push_size _ rfl, rfl, rfl⟩, fun b hb => ?_, q⟩
 have e : b = s1.heap.objs.size := by simpa using hb
 subst e
 exact I1.fpOk (Nat.le_refl _) (I1.hok.fresh (Nat.le_refl _))
end
theorem Zir {σ : St} {H : Hp} {R : It -> Hp -> Prop} {tl : TE} (h : tl σ H fun x H1 => ∃ z, x = .str z /\ z.cps.all (· < 128) = true /\ R (Its z) H1) : iStr tl σ H R := h
theorem ZmH {z : Str} {g : TG} {tb : TS} {D' : Ends} {σ : St} {H : Hp} (Pv : Nat -> St -> Hp -> Prop) (h0 : Pv 0 σ H)
  (hs : ∀ i c σ H, z.cps[i]? = some c -> Pv i σ H -> g (.str ⟨#[c]⟩) σ H fun σ2 H2 => tb { D' with nx := Pv (i + 1), ct := Pv (i + 1), bk := D'.nx } σ2 H2) (hd : ∀ σ H, Pv z.cps.size σ H -> D'.nx σ H) :
  ∃ W : Nat -> Nat -> St -> Hp -> Prop, (∃ m, W 0 m σ H) /\ ∀ i m σ H, W i m σ H ->
   ((Its z).stop i H /\ D'.nx σ H) \/ ((Its z).go i H /\ ∃ N : St -> Hp -> Prop, (∀ σ' H', N σ' H' -> ∃ m', m' < m /\ W (i + 1) m' σ' H') /\ ∀ x H', (Its z).yld i H x H' -> g x σ H' fun σ2 H2 => tb { D' with nx := N, ct := N, bk := D'.nx } σ2 H2) := by
 refine ⟨fun i m σ H => m = z.cps.size - i /\ i <= z.cps.size /\ Pv i σ H, ⟨z.cps.size, by simp, Nat.zero_le _, h0⟩, ?_⟩
 rintro i m σ H ⟨rfl, hi, p⟩
 by_cases hlt : i < z.cps.size
 ·refine .inr ⟨hlt, Pv (i + 1), fun σ' H' p' => ⟨z.cps.size - (i + 1), by lia, rfl, hlt, p'⟩, ?_⟩
  rintro x H' ⟨rfl, c, hc, rfl⟩
  exact hs i c σ _ hc p
 ·have e : i = z.cps.size := by lia
  subst e
  exact .inl ⟨Nat.le_refl _, hd σ H p⟩
theorem cw_str {z : Str} {g : TG} {tt : TT} {te : TE} {Q : VK} {σ : St} {H : Hp} (hz : z.cps.size <= sizeLine) (Pv : Nat -> List V -> St -> Hp -> Prop) (h0 : Pv 0 [] σ H)
  (hs : ∀ i c ys σ H, z.cps[i]? = some c -> ys.length <= i -> ys.length < sizeLine -> Pv i ys σ H -> g (.str ⟨#[c]⟩) σ H fun σ2 H3 => tt σ2 H3 fun ok H4 => if ok = true then te σ2 H4 fun y H5 => ys.length < sizeLine /\ CN Pv i (ys ++ [y]) σ2 H5 else CN Pv i ys σ2 H4)
  (hd : ∀ ys σ H, ys.length <= z.cps.size -> Pv z.cps.size ys σ H -> ∀ p, H p = none -> Q (.ref p) (upd H p (.lst ys))) :
  ∃ W : Nat -> Nat -> List V -> St -> Hp -> Prop, (∃ m, W 0 m [] σ H) /\ CW (Its z) g tt te W Q := by
 refine Zjp z.cps.size hz Pv h0 (fun i ys σ H hi p => hi) (fun ys σ H p => Nat.le_refl _) (fun i x ys σ H H2 hi h1 h2 p y => ?_) hd
 obtain ⟨rfl, c, hc, rfl⟩ := y
 exact hs i c ys σ _ hc h1 h2 p
end L2
end
section
namespace L2
open PySem PySem.Spec PyProof.Rows
noncomputable def rLstD : List V -> Hp -> VK -> Prop := fun xs H Q => ∃ (a : Addr) (kvs : List (Key × V)), xs = [.ref a] /\ H a = some (.dK kvs) /\ ∀ p, H p = none -> Q (.ref p) (upd H p (.lst (kvs.map fun q => kV q.1)))
theorem Zmw {k : Key} {v : Value} (h : Zgh k v = true) : RelV (kV k) v := by
  cases k with
  | inl i =>
    obtain ⟨t, rfl⟩ := Value.isInt_shape (k := i) (v := v) h
    exact ⟨t, rfl⟩
  | inr x =>
    obtain ⟨t, rfl⟩ := Value.isStrOf_shape (x := x) (v := v) h
    exact ⟨t, rfl⟩
theorem ZhU : ∀ {xs : List V} {us : List Value}, us.length = xs.length -> (∀ (j : Nat) u, us[j]? = some u -> ∃ x, xs[j]? = some x /\ RelV x u) -> Vals xs us
  | [], [], _, _ => .nil
  | x :: xs, [], h, _ => by cases h
  | [], u :: us, h, _ => by cases h
  | x :: xs, u :: us, h, k => by
    obtain ⟨y, e, r⟩ := k 0 u rfl
    cases e
    exact .cons r (ZhU (by simpa using h) fun j v e => by
      obtain ⟨y', e', r'⟩ := k (j + 1) v (by simpa using e)
      exact ⟨y', by simpa using e', r'⟩)
theorem ZeN {X : Cx} (hc : X.calm = true) : ZbU X (.type "list") rLstD := by
  intro pins s σ H xs us Q I r h
  obtain ⟨a, kvs, rfl, ha, q⟩ := h
  obtain ⟨u, rfl, ru⟩ := Zev r
  cases ru
  obtain ⟨hz, hS, vs, kv, hd⟩ := (show ObjOk X.prog X.w H s.heap a (.dK kvs) from I.hok a _ ha)
  obtain ⟨ep, hat⟩ := hd.dictAt
  have hlen : kvs.length = vs.length := Paired.length kv
  refine PySem.W.kdl_call (PySem.W.kdl_dict (knd := Zbo X.prog X.w) (kvs := vs) (ep := ep) hS) (I.ok.hd hc) hat (by lia) fun h' tk acc c' keep hat' hacc => ?_
  have hal : acc.toList.length = vs.length := by rw [Array.length_toList]; exact hacc.1
  have hv : Vals (kvs.map fun q => kV q.1) acc.toList := ZhU (by rw [List.length_map]; lia) fun j u e => by
    obtain ⟨k, x, e1, e2⟩ := hacc.2 j u (by rw [<- Array.getElem?_toList]; exact e)
    obtain ⟨p, ep1, ep2⟩ := KV.at' kv e1
    exact ⟨kV k, by rw [List.getElem?_map, ep1, Option.map_some, ep2], Zmw e2⟩
  have hne : ∀ b o, s.heap.get? b = some o -> b ≠ s.heap.objs.size := fun b o e => Nat.ne_of_lt (Heap.lt_size e)
  have hH : H s.heap.objs.size = none := by
    cases e : H s.heap.objs.size with
    | none => rfl
    | some o =>
      obtain ⟨o', e'⟩ := (I.hok _ o e).there
      exact absurd rfl (hne _ o' e')
  refine ⟨.ref s.heap.objs.size, upd H s.heap.objs.size (.lst (kvs.map fun q => kV q.1)), I.un (Un.track' (Un.kept keep) hne hH) (HOk.track (I.hok.kept keep) hH ⟨by rw [List.length_map]; lia, acc.toList, c', hv, ?_⟩), rfl, q _ hH⟩
  simpa using hat'
end L2
end
section
namespace L2
open PySem PySem.Spec PyProof.Rows
theorem Zg7 {X : Cx} {K : PySem.W.Frag} {tg l : Expr} {tl : TE} (h : X.K = K) (hl : PE X l tl) : PI X tg l (iStr tl) := pi_str hl
theorem Zli {X : Cx} {K : PySem.W.Frag} (h : X.K = K) : OpR X (binaryOp .Add) (rCatT K) := h ▸ ZiS
noncomputable def lettersL : List (Str × Str) := [("put", "pi"), ("copy", "pp"), ("plus", "ppp"), ("less", "ppp"), ("times", "ppc"), ("take", "p"), ("tell", "p"), ("jump", "t"), ("zero", "pt"), ("below", "pt"), ("call", "pfq"), ("back", "p")]
noncomputable def lettersKV : List (Key × V) := lettersL.map fun q => (Sum.inr q.1, V.str q.2)
noncomputable def ZjL (boxes many ns : Int) (c : Str) (n : Int) : Prop := (c = "p" -> 0 <= n /\ n < boxes) /\ (c = "t" -> 0 <= n /\ n < many) /\ (c = "f" -> 0 <= n /\ n < ns) /\ (c = "c" -> -99 <= n /\ n <= 99) /\ n.natAbs <= 10 ^ 60
noncomputable def ZhM (sg : List (Int × Int)) (boxes many : Int) (ps : List D) (c : Str) (d : D) : Prop :=
 (c ≠ "q" /\ ∃ n, d = .int n /\ ZjL boxes many sg.length c n) \/
 (c = "q" /\ ∃ (args : List Int) (f : Nat) (tk : Int × Int), ps[1]? = some (.int f) /\ sg[f]? = some tk /\ d = .tup (args.map D.int) /\ (args.length : Int) = tk.1 /\ ∀ q ∈ args, 0 <= q /\ q < boxes)
structure RowG (sg : List (Int × Int)) (boxes many : Int) (w ls : Str) (ps : List D) : Prop where
 tab : (w, ls) ∈ lettersL
 len : ps.length = ls.cps.size
 parts : ∀ (i c : Nat), ls.cps[i]? = some c -> ∃ d, ps[i]? = some d /\ ZhM sg boxes many ps ⟨#[c]⟩ d
noncomputable def rowD (r : Str × List D) : D := .tup (.str r.1 :: r.2)
noncomputable def ZkW (sg : List (Int × Int)) (boxes many : Int) (r : Str × List D) : Prop := ∃ ls, RowG sg boxes many r.1 ls r.2
structure RowsOk (sg : List (Int × Int)) (boxes many : Int) (rs : List (Str × List D)) : Prop where
 len : (rs.length : Int) = many
 all : ∀ r ∈ rs, ZkW sg boxes many r
 last : ∃ r, rs[rs.length - 1]? = some r /\ (r.1 = "back" \/ r.1 = "jump")
structure SgOk (sg : List (Int × Int)) : Prop where
 pos : 0 < sg.length
 few : sg.length <= 6
 first : ∃ bx, sg[0]? = some (0, bx)
 all : ∀ q ∈ sg, 0 <= q.1 /\ q.1 <= 4 /\ q.1 <= q.2 /\ 1 <= q.2 /\ q.2 <= 8
theorem Zhx : ∀ q ∈ lettersL, q.2.cps.all (· < 128) = true := by decide +kernel
noncomputable def qOk (q : Str × Str) (i : Nat) : Bool := decide ((⟨#[q.2.cps.getD i 0]⟩ : Str) = "q" -> i = 2 /\ 1 < q.2.cps.size /\ (⟨#[q.2.cps.getD 1 0]⟩ : Str) = "f")
theorem q_all : (lettersL.all fun q => (List.range q.2.cps.size).all (qOk q)) = true := by decide +kernel
theorem q_at {w ls : Str} (h : (w, ls) ∈ lettersL) {i c : Nat} (e : ls.cps[i]? = some c) (hq : (⟨#[c]⟩ : Str) = "q") : i = 2 /\ ∃ c', ls.cps[1]? = some c' /\ (⟨#[c']⟩ : Str) = "f" := by
 have hi := (Array.getElem?_eq_some_iff.mp e).1
 have h1 := List.all_eq_true.mp q_all _ h
 have h2 := List.all_eq_true.mp h1 i (List.mem_range.mpr hi)
 have hc : ls.cps.getD i 0 = c := by
  rw [Array.getElem?_eq_getElem hi] at e
  simp [Array.getD, hi]
  exact Option.some.inj e
 unfold qOk at h2
 rw [decide_eq_true_eq] at h2
 dsimp only at h2
 rw [hc] at h2
 obtain ⟨a, b, d⟩ := h2 hq
 exact ⟨a, _, Array.getElem?_eq_getElem b, by simpa [Array.getD, b] using d⟩
theorem Zgf {w ls : Str} (h : (w, ls) ∈ lettersL) : valV lettersKV (Sum.inr w : Key) = some (V.str ls) := by
 have hk : ∀ q ∈ lettersL, (lettersL.find? fun p => decide (p.1 = q.1)) = some q := by decide +kernel
 have e := hk _ h
 unfold valV lettersKV
 rw [List.find?_map]
 have e2 : ((fun kv : Key × V => decide (kv.1 = Sum.inr w)) ∘ fun q : Str × Str => ((Sum.inr q.1 : Key), V.str q.2)) = fun p : Str × Str => decide (p.1 = w) := by
  funext p
  simp
 rw [e2, e]
 rfl
theorem Zeg : ∀ (more acc : List (Key × V)), ((acc ++ more).map (·.1)).Nodup -> Zdf acc more = acc ++ more
  | [], acc, _ => by rw [List.append_nil]; rfl
  | q :: more, acc, h => by
    have hv : valV acc q.1 = none := by
      cases e : valV acc q.1 with
      | none => rfl
      | some v =>
        have hm := Zlv e
        rw [List.map_append, List.map_cons] at h
        exact absurd rfl ((List.nodup_append.mp h).2.2 q.1 hm q.1 List.mem_cons_self)
    show Zdf (putK acc q.1 q.2) more = acc ++ q :: more
    rw [Zkl _ hv, Zeg more (acc ++ [(q.1, q.2)]) (by simpa using h)]
    simp
theorem Ze1 : Zdf [] lettersKV = lettersKV := Zeg lettersKV [] (by decide +kernel)
theorem ZgE {σ : St} : ∀ (l : List (V × V)) {H : Hp} {Q : List (V × V) -> Hp -> Prop}, Q l H -> ZgF (l.map fun q => (tC q.1, tC q.2)) σ H Q
 | [], _, _, h => h
 | (x, y) :: l, H, Q, h => ZgE l (Q := fun ps H3 => Q ((x, y) :: ps) H3) h
noncomputable abbrev PDef := Int × Int × List (Str × List D)
inductive DefAt (av : List Addr) (H : Hp) (d : PDef) (v : V) : Prop
 | mk (t q ys) (_ : v = .ref t) (_ : H t = some (.tup [.int d.1, .int d.2.1, .ref q])) (_ : H q = some (.lst ys)) (_ : q ∉ av) (_ : Reps H (d.2.2.map rowD) ys) : DefAt av H d v
noncomputable def DefsAt (av : List Addr) (H : Hp) : List PDef -> List V -> Prop
 | [], vs => vs = []
 | d :: ds, vs => ∃ v r, vs = v :: r /\ DefAt av H d v /\ DefsAt av H ds r
theorem DefAt.by {av : List Addr} {H H' : Hp} {d : PDef} {v : V} (h : DefAt av H d v) (s : ∀ a xs, a ∉ av -> H a = some (.lst xs) -> H' a = some (.lst xs)) (t : TSame H H') : DefAt av H' d v := by
 obtain ⟨a, q, ys, rfl, h1, h2, n, r⟩ := h
 exact ⟨a, q, ys, rfl, t _ _ h1, s _ _ n h2, n, r.mono t⟩
theorem DefsAt.by {av : List Addr} {H H' : Hp} (s : ∀ a xs, a ∉ av -> H a = some (.lst xs) -> H' a = some (.lst xs)) (t : TSame H H') : ∀ {ds : List PDef} {vs : List V}, DefsAt av H ds vs -> DefsAt av H' ds vs
  | [], _, h => h
  | d :: ds, vs, h => by
    obtain ⟨v, r, e, h1, h2⟩ := h
    exact ⟨v, r, e, h1.by s t, DefsAt.by s t h2⟩
theorem DefsAt.bs {av : List Addr} {b l : Addr} {H H' : Hp} {ds : List PDef} {vs : List V} (h : DefsAt av H ds vs) (s : BSame b H H') (B : BagAt H b l) (m : b ∈ av) : DefsAt av H' ds vs :=
 h.by (fun a xs n e => s _ _ (fun z => n (z ▸ m)) e) (s.ts B)
theorem DefsAt.mono {av : List Addr} {H H' : Hp} {ds : List PDef} {vs : List V} (h : DefsAt av H ds vs) (s : Same H H') : DefsAt av H' ds vs := h.by (fun a xs _ e => s _ _ e) s.ts
theorem DefsAt.wr {av : List Addr} {H : Hp} {q : Addr} {xs : List V} {o : HO} {ds : List PDef} {vs : List V} (h : DefsAt av H ds vs) (m : q ∈ av) (e : H q = some (.lst xs)) : DefsAt av (upd H q o) ds vs :=
 h.by (fun a ys n z => by rw [ZaH (fun w : a = q => n (w ▸ m))]; exact z) (TSame.wr fun zs z => by rw [e] at z; cases z)
theorem DefsAt.append {av : List Addr} {H : Hp} : ∀ {ds es : List PDef} {vs ws : List V}, DefsAt av H ds vs -> DefsAt av H es ws -> DefsAt av H (ds ++ es) (vs ++ ws)
  | [], es, vs, ws, h, r => by
    have h : vs = [] := h
    rw [h]
    exact r
  | d :: ds, es, vs, ws, h, r => by
    obtain ⟨v, q, rfl, h1, h2⟩ := h
    exact ⟨v, q ++ ws, rfl, h1, DefsAt.append h2 r⟩
theorem DefsAt.length {av : List Addr} {H : Hp} : ∀ {ds : List PDef} {vs : List V}, DefsAt av H ds vs -> ds.length = vs.length
  | [], vs, h => by
    have h : vs = [] := h
    rw [h]; rfl
  | d :: ds, vs, h => by
    obtain ⟨v, q, rfl, h1, h2⟩ := h
    simp [DefsAt.length h2]
theorem DefsAt.get {av : List Addr} {H : Hp} : ∀ {ds : List PDef} {vs : List V} {i : Nat} {v : V}, DefsAt av H ds vs -> vs[i]? = some v -> ∃ d, ds[i]? = some d /\ DefAt av H d v
  | [], vs, i, v, h, e => by
    have h : vs = [] := h
    rw [h] at e
    simp at e
  | d :: ds, vs, 0, v, h, e => by
    obtain ⟨u, q, rfl, h1, h2⟩ := h
    simp at e
    subst e
    exact ⟨d, rfl, h1⟩
  | d :: ds, vs, i + 1, v, h, e => by
    obtain ⟨u, q, rfl, h1, h2⟩ := h
    obtain ⟨d', e1, e2⟩ := DefsAt.get h2 (i := i) (v := v) (by simpa using e)
    exact ⟨d', by simpa using e1, e2⟩
theorem le3 {w ls : Str} (h : (w, ls) ∈ lettersL) : ls.cps.size <= 3 := by
 have hk : ∀ q ∈ lettersL, q.2.cps.size <= 3 := by decide +kernel
 exact hk _ h
theorem ZcG {c : TT} {t u t2 : TS} {D' : Ends} {σ : St} {H : Hp} (I : St -> Hp -> Prop) (hI : ∀ σ' H', I σ' H' -> t2 D' σ' H') (h : ∀ N : St -> Hp -> Prop, (∀ σ' H', I σ' H' -> N σ' H') -> tIfS c t u { D' with nx := N } σ H) : tSeq (tIfS c t u) t2 D' σ H :=
 h (t2 D') hI
structure ProgOk (sg : List (Int × Int)) (ds : List PDef) : Prop where
 sgs : SgOk sg
 heads : ds.map (fun d => (d.1, d.2.1)) = sg
 rows : ∀ d ∈ ds, ∃ many, 1 <= many /\ many <= 30 /\ RowsOk sg d.2.1 many d.2.2
end L2
end
section
namespace L2
open PySem PySem.Spec PyProof.Rows
section
variable {X : Cx} {C : Addr} {x m : Str} {k : Nat} {ps : List Str} {sp : Sp} {o e : Expr} {es : List Expr} {ta : TE} {t : TA} {apos pos p : Pos}
theorem ZcV {n : Int} (hg : Gl X x) (h : ∃ t, X.mg x = some (.int n t)) (hd : (x == ("__debug__" : Str)) = false := by decide) : PE X (.Name x pos) (tC (.int n)) := by
 obtain ⟨t, h⟩ := h
 exact ZiH hg h ⟨t, rfl⟩ hd
end
section
variable {P : Program} {w : World} {K : PySem.W.Frag} {mg : Str -> Option Value} {base : Heap} {x m qual : Str} {st : Stmt} {ps N : List Str} {sp : Sp} {k : Nat} {C : Addr}
end
section
variable {σ : St} {H : Hp} {Q : VK} {K : PySem.W.Frag} {ta tv : TE} {f m : Str} {C a dx : Addr} {fs : List (Str × V)} {v : V}
end
end L2
end
section
namespace L2
open PySem PySem.Spec PyProof.Rows
noncomputable def CTup (K : PySem.W.Frag) (a : Addr) (xs : List V) : Prop := ∃ (o : Obj) (its : Array Value) (n : Nat), K.lookup a = some o /\ o.cls = .type "tuple" /\ o.data = .seq its n /\ its.size <= sizeLine /\ Vals xs its.toList
theorem CTup.sq {K : PySem.W.Frag} {a : Addr} {xs : List V} (h : CTup K a xs) (H : Hp) : SqT K H a xs := .inr h
noncomputable def entC (w : World) (q : Str × Tok × Addr) : DictEntry := ⟨hashStr w q.1, .str q.1 q.2.1, .ref q.2.2⟩
noncomputable def CDat (K : PySem.W.Frag) (w : World) (a : Addr) (tb : List (Str × List Str)) : Prop :=
 (a == sysModules) = false /\ (tb.map (·.1)).Nodup /\ ∃ (rows : List (Str × Tok × Addr)) (ep : Nat), K.lookup a = some { cls := .type "dict", data := .dict (rows.map (entC w)).toArray ep } /\
  Paired (fun (p : Str × List Str) (q : Str × Tok × Addr) => p.1 = q.1 /\ CTup K q.2.2 (p.2.map V.str)) tb rows
theorem ZmP {K : PySem.W.Frag} {tb : List (Str × List Str)} {rows : List (Str × Tok × Addr)} (h : Paired (fun (p : Str × List Str) (q : Str × Tok × Addr) => p.1 = q.1 /\ CTup K q.2.2 (p.2.map V.str)) tb rows) (x : Str) :
    (tb.lookup x = none /\ valueAt (rows.map fun q => ((Sum.inr q.1 : Key), Value.ref q.2.2)) (Sum.inr x) = none) \/ ∃ ks a, tb.lookup x = some ks /\ CTup K a (ks.map V.str) /\ valueAt (rows.map fun q => ((Sum.inr q.1 : Key), Value.ref q.2.2)) (Sum.inr x) = some (.ref a) := by
  induction h with
  | nil => exact .inl ⟨rfl, rfl⟩
  | @cons p q ps qs hq t ih =>
    obtain ⟨p1, p2⟩ := p
    obtain ⟨q1, qt, qa⟩ := q
    obtain ⟨e, c⟩ := hq
    dsimp only at e c
    subst e
    by_cases z : x = p1
    · subst z
      refine .inr ⟨p2, qa, by simp [List.lookup], c, ?_⟩
      simp [valueAt]
    · have z1 : (x == p1) = false := by simpa using z
      have z2 : ¬ p1 = x := fun w => z w.symm
      have e1 : List.lookup x ((p1, p2) :: ps) = List.lookup x ps := by simp [List.lookup, z1]
      have e2 : valueAt (((p1, qt, qa) :: qs).map fun q => ((Sum.inr q.1 : Key), Value.ref q.2.2)) (Sum.inr x) = valueAt (qs.map fun q => ((Sum.inr q.1 : Key), Value.ref q.2.2)) (Sum.inr x) := by
        simp [valueAt, z2]
      rw [e1, e2]
      exact ih
theorem Zhg {P : Program} {w : World} : ∀ (rows : List (Str × Tok × Addr)), Pairs (Zbo P w) (rows.map (entC w)) (rows.map fun q => ((Sum.inr q.1 : Key), Value.ref q.2.2))
  | [] => .nil
  | q :: rows => by
    rw [List.map_cons, List.map_cons]
    exact .cons (ZcW P w q.1 q.2.1) rfl (Zhg rows)
theorem CDat.dict {P : Program} {w : World} {K : PySem.W.Frag} {h : Heap} {a : Addr} {tb : List (Str × List Str)} (c : CDat K w a tb) (hk : K.In h) : ∃ vs, h.DictOf (Zbo P w) a vs /\
  ∀ x, (tb.lookup x = none /\ valueAt vs (Sum.inr x) = none) \/ ∃ ks b, tb.lookup x = some ks /\ CTup K b (ks.map V.str) /\ valueAt vs (Sum.inr x) = some (.ref b) := by
 obtain ⟨hs, nd, rows, ep, hl, pr⟩ := c
 refine ⟨rows.map fun q => ((Sum.inr q.1 : Key), Value.ref q.2.2), ⟨_, _, ep, hk a _ hl, ⟨rfl, rfl, rfl⟩, rfl, ?_, by simpa using Zhg rows, ?_⟩, ZmP pr⟩
 ·intro e he
  have he : e ∈ rows.map (entC w) := by simpa using he
  obtain ⟨q, hq, rfl⟩ := List.mem_map.mp he
  exact ⟨.inr q.1, ZcW P w q.1 q.2.1, rfl⟩
 ·have e : rows.map (·.1) = tb.map (·.1) := by
   clear hl nd
   induction pr with
   | nil => rfl
   | cons hq t ih => rw [List.map_cons, List.map_cons, ih, hq.1]
  rw [List.map_map]
  have : (rows.map (·.1)).Nodup := e ▸ nd
  have e2 : rows.map ((fun x : Key × Value => x.1) ∘ fun q : Str × Tok × Addr => ((Sum.inr q.1 : Key), Value.ref q.2.2)) = (rows.map (·.1)).map Sum.inr := by rw [List.map_map]; rfl
  rw [e2]
  exact List.Pairwise.map _ (fun a b z z' => z (Sum.inr.inj z')) this
noncomputable def IsCD (K : PySem.W.Frag) (w : World) (mg : Str -> Option Value) (x : Str) (tb : List (Str × List Str)) : Prop := ∃ a, mg x = some (.ref a) /\ CDat K w a tb
noncomputable def tCD (K : PySem.W.Frag) (w : World) (tb : List (Str × List Str)) : TE := fun _ H Q => ∀ a, CDat K w a tb -> Q (.ref a) H
noncomputable def rInCD (K : PySem.W.Frag) (w : World) (tb : List (Str × List Str)) : R2 := fun x y H Q => ∃ a k, x = .str k /\ y = .ref a /\ CDat K w a tb /\ Q (.bl (tb.lookup k).isSome) H
noncomputable def Zlf (K : PySem.W.Frag) (w : World) (tb : List (Str × List Str)) : R2 := fun x y H Q => ∃ a k, x = .str k /\ y = .ref a /\ CDat K w a tb /\ Q (.bl (!(tb.lookup k).isSome)) H
noncomputable def Zk0 (K : PySem.W.Frag) (w : World) (tb : List (Str × List Str)) (td ty : TE) : TE := fun σ H Q => td σ H fun x H1 => ty σ H1 fun y H2 => ∃ a k ks, x = .ref a /\ CDat K w a tb /\ y = .str k /\ tb.lookup k = some ks /\ ∀ b, (∀ H', SqT K H' b (ks.map V.str)) -> Q (.ref b) H2
section
variable {X : Cx} {o i e value : Expr} {pos pos' tpos : Pos} {td ty tv : TE} {x : Str} {K : PySem.W.Frag} {w : World} {tb : List (Str × List Str)}
theorem Zkq (hg : Gl X x) (h : IsCD K w X.mg x tb) (hd : (x == ("__debug__" : Str)) = false := by decide) : PE X (.Name x pos) (tCD K w tb) := by
 obtain ⟨a, h, r⟩ := h
 intro pins s σ H Q I q
 exact ZiH (v := .ref a) hg h rfl hd pins s σ H Q I (q a r)
theorem Zml (hK : X.K = K) (hw : X.w = w) : OpR X (compareOp .In) (rInCD K w tb) := by
 subst hK; subst hw
 intro pins s σ H x y v u Q I rx ry h
 obtain ⟨a, k, rfl, rfl, c, q⟩ := h
 obtain rfl : u = Value.ref a := ry
 obtain ⟨vs, dd, hf⟩ := c.dict (P := X.prog) I.kIn
 refine wpAny_in_of (Zgj (k := Sum.inr k) rx) c.1 dd.mapOf ?_
 refine ⟨.bl (tb.lookup k).isSome, H, I.tok _, ?_, q⟩
 rcases hf k with ⟨e1, e2⟩ | ⟨ks, b, e1, _, e2⟩
 ·rw [e1, e2]; rfl
 ·rw [e1, e2]; rfl
theorem Zkt (hK : X.K = K) (hw : X.w = w) : OpR X (compareOp .NotIn) (Zlf K w tb) := by
 subst hK; subst hw
 intro pins s σ H x y v u Q I rx ry h
 obtain ⟨a, k, rfl, rfl, c, q⟩ := h
 obtain rfl : u = Value.ref a := ry
 obtain ⟨vs, dd, hf⟩ := c.dict (P := X.prog) I.kIn
 refine wpAny_notIn_of (Zgj (k := Sum.inr k) rx) c.1 dd.mapOf ?_
 refine ⟨.bl (!(tb.lookup k).isSome), H, I.tok _, ?_, q⟩
 rcases hf k with ⟨e1, e2⟩ | ⟨ks, b, e1, _, e2⟩
 ·rw [e1, e2]; rfl
 ·rw [e1, e2]; rfl
theorem ZgW (hK : X.K = K) (hw : X.w = w) (ho : PE X o td) (hi : PE X i ty) (hs : NoSl i) : PE X (.Subscript o i pos) (Zk0 K w tb td ty) := by
 subst hK; subst hw
 intro pins s σ H Q I h
 refine Zh7 PySem.F.slot_dict_getitem.lookup hs (thn (ho pins s σ H _ I h) fun u s1 ⟨x, H1, I1, rx, q1⟩ => thn (hi pins s1 σ H1 _ I1 q1) fun iv s2 ⟨y, H2, I2, ry, a, k, ks, ex, c, ey, l, q2⟩ => ?_)
 subst ex; subst ey
 obtain rfl : u = Value.ref a := rx
 obtain ⟨vs, dd, hf⟩ := c.dict (P := X.prog) I2.kIn
 refine ⟨dd.typeIs, ?_⟩
 rcases hf k with ⟨e1, e2⟩ | ⟨ks', b, e1, ct, e2⟩
 ·rw [l] at e1; cases e1
 ·rw [l] at e1; cases e1
  exact wpAny_getItem_of (Zgj (k := Sum.inr k) ry) dd.mapOf e2 ⟨.ref b, H2, I2.tok _, rfl, q2 b fun H' => ct.sq H'⟩
end
theorem Zki {K : PySem.W.Frag} {w : World} {tb : List (Str × List Str)} {σ : St} {H : Hp} {Q : VK} (h : ∀ a, CDat K w a tb -> Q (.ref a) H) : tCD K w tb σ H Q := h
theorem Zl0 {K : PySem.W.Frag} {w : World} {tb : List (Str × List Str)} {a : Addr} {k : Str} {H : Hp} {Q : VK} (c : CDat K w a tb) (h : Q (.bl (tb.lookup k).isSome) H) : rInCD K w tb (.str k) (.ref a) H Q := ⟨a, k, rfl, rfl, c, h⟩
theorem Zj5 {K : PySem.W.Frag} {w : World} {tb : List (Str × List Str)} {a : Addr} {k : Str} {H : Hp} {Q : VK} (c : CDat K w a tb) (h : Q (.bl (!(tb.lookup k).isSome)) H) : Zlf K w tb (.str k) (.ref a) H Q := ⟨a, k, rfl, rfl, c, h⟩
noncomputable def cdK (K : PySem.W.Frag) (w : World) (tb : List (Str × List Str)) (Q : VK) (x y : V) (H2 : Hp) : Prop := ∃ a k ks, x = .ref a /\ CDat K w a tb /\ y = .str k /\ tb.lookup k = some ks /\ ∀ b, (∀ H', SqT K H' b (ks.map V.str)) -> Q (.ref b) H2
theorem Zkh {K : PySem.W.Frag} {w : World} {tb : List (Str × List Str)} {td ty : TE} {σ : St} {H : Hp} {Q : VK} (h : td σ H fun x H1 => ty σ H1 fun y H2 => cdK K w tb Q x y H2) : Zk0 K w tb td ty σ H Q := h
theorem Zlr {K : PySem.W.Frag} {w : World} {tb : List (Str × List Str)} {a : Addr} {k : Str} {ks : List Str} {H : Hp} {Q : VK} (c : CDat K w a tb) (l : tb.lookup k = some ks) (h : ∀ b, (∀ H', SqT K H' b (ks.map V.str)) -> Q (.ref b) H) : cdK K w tb Q (.ref a) (.str k) H := ⟨a, k, ks, rfl, c, rfl, l, h⟩
noncomputable def Zlo (p : Addr) (Q : VK) (ps : List (V × V)) (H2 : Hp) : Prop := H2 p = some (.dK []) /\ ∃ kvs : List (Key × V), ps = kvs.map (fun kv => (kV kv.1, kv.2)) /\ kvs.length <= 15 /\ Q (.ref p) (upd H2 p (.dK (Zdf [] kvs)))
theorem Zkc {tk tv tk2 tv2 tk3 tv3 : TE} {σ : St} {H : Hp} {Q : VK} (h : ∀ p, H p = none -> tk σ (upd H p (.dK [])) fun x H1 => tv σ H1 fun y H2 => tk2 σ H2 fun x2 H3 => tv2 σ H3 fun y2 H4 => tk3 σ H4 fun x3 H5 => tv3 σ H5 fun y3 H6 => Zlo p Q [(x, y), (x2, y2), (x3, y3)] H6) : Zlz [(tk, tv), (tk2, tv2), (tk3, tv3)] σ H Q := h
theorem ZkN {p : Addr} {Q : VK} {k1 k2 k3 : Str} {y1 y2 y3 : V} {H2 : Hp} (h : H2 p = some (.dK [])) (n : [(Sum.inr k1 : Key), Sum.inr k2, Sum.inr k3].Nodup) (q : Q (.ref p) (upd H2 p (.dK [(Sum.inr k1, y1), (Sum.inr k2, y2), (Sum.inr k3, y3)]))) : Zlo p Q [(.str k1, y1), (.str k2, y2), (.str k3, y3)] H2 :=
 ⟨h, [(Sum.inr k1, y1), (Sum.inr k2, y2), (Sum.inr k3, y3)], rfl, by show 3 <= 15; decide, by rw [Zeg _ _ (by simpa using n)]; exact q⟩
noncomputable def partsT : List (Str × List Str) := [("put", ["box", "number"]), ("copy", ["box", "box"]), ("plus", ["box", "box", "box"]), ("less", ["box", "box", "box"]), ("times", ["box", "box", "factor"]), ("take", ["box"]), ("tell", ["box"]), ("jump", ["row"]), ("zero", ["box", "row"]), ("below", ["box", "row"]), ("call", ["box", "def", "boxes"]), ("back", ["box"])]
end L2
end
section
namespace L2
open PySem PySem.Spec PyProof.Rows
section
variable {X : Cx}
noncomputable def rSlS : V -> Option Int -> Option Int -> Hp -> VK -> Prop := fun x lo hi H Q => ∃ z, x = .str z /\ z.length <= sizeLine /\ Q (.str (Txt.slice z lo hi)) H
theorem ZiK {v : Value} {o : Option Int} (h : IsPart v o) : ∃ l : Option (Int × Tok), v = partValue l /\ l.map (·.1) = o := by
 cases h with
 | none => exact ⟨none, rfl, rfl⟩
 | int i t => exact ⟨some (i, t), rfl, rfl⟩
theorem sl_str : SlR X rSlS := by
 intro pins s σ H x v vl vu lo hi sl Q I rx hs pl pu h
 obtain ⟨z, rfl, hz, q⟩ := h
 obtain ⟨t, rfl⟩ := rx
 obtain ⟨l, rfl, rfl⟩ := ZiK pl
 obtain ⟨u, rfl, rfl⟩ := ZiK pu
 refine ⟨"str", _, PySem.F.slot_str_getitem.lookup, typeIs_str s z t, ?_⟩
 refine wpAny_getItem_str_slice (l := l) (u := u) (st := none) hs (by decide) ?_
 have fin : ∀ t' tk, EP X pins σ Q (.str (Txt.slice z (l.map (·.1)) (u.map (·.1))) t') { s with toks := tk } := fun t' tk => ⟨.str _, H, I.tok _, ⟨_, rfl⟩, q⟩
 exact post_val_or_str ⟨Nat.le_trans (Txt.slice_le z _ _) hz, fun t' k => fin t' k⟩
theorem Zh8 : ∀ {us : List Value} {zs : List Str}, Vals (zs.map V.str) us -> StrsAre us zs
  | [], [], _ => .nil
  | [], z :: zs, h => by cases h
  | u :: us, [], h => by cases h
  | u :: us, z :: zs, h => by
    cases h with
    | cons r1 r2 =>
      obtain ⟨t, rfl⟩ := r1
      exact .cons z t (Zh8 r2)
noncomputable def Zmd (K : PySem.W.Frag) : V -> List V -> Hp -> VK -> Prop := fun x vs H Q => ∃ z a zs, x = .str z /\ vs = [.ref a] /\ SqL K H a ((zs : List Str).map V.str) /\ z.length <= 16 /\ (zs.map (·.length)).sum + zs.length <= 1048576 /\ Q (.str (Txt.join z zs)) H
theorem Zmr : MtR X "str.join" (Zmd X.K) := by
 intro pins s σ H x vs v us Q I rx rv h
 obtain ⟨z, a, zs, rfl, rfl, ha, hl, hw, q⟩ := h
 obtain ⟨t, rfl⟩ := rx
 obtain ⟨u, rfl, ru⟩ := rv.one
 cases ru
 obtain ⟨its, vx, ht, _⟩ := I.list ha
 exact join_listW ht.isList (by simpa using Zh8 vx) hl hw fun t' k => ⟨.str _, H, I.tok _, ⟨_, rfl⟩, q⟩
end
end L2
end
section
namespace L2
open PySem PySem.Spec PyProof.Rows
section
variable {X : Cx}
noncomputable def rAll (K : PySem.W.Frag) : List V -> Hp -> VK -> Prop := fun xs H Q => ∃ (a : Addr) (bs : List Bool), xs = [.ref a] /\ SqL K H a (bs.map V.bl) /\ Q (.bl (bs.all id)) H
theorem ZjI (bs : List Bool) : (List.range bs.length).all (fun i => bs.getD i false) = bs.all id := by
 rw [Bool.eq_iff_iff, List.all_eq_true, List.all_eq_true]
 constructor
 ·intro h b hb
  obtain ⟨j, hj, rfl⟩ := List.getElem_of_mem hb
  have := h j (List.mem_range.mpr hj)
  simpa [hj] using this
 ·intro h j hj
  have hj := List.mem_range.mp hj
  have := h bs[j] (List.getElem_mem hj)
  simpa [hj] using this
theorem ZjC (hc : X.calm = true) : ZbU X (.builtin "all") (rAll X.K) := by
 intro pins s σ H xs us Q I r h
 obtain ⟨a, bs, rfl, ha, q⟩ := h
 obtain ⟨u, rfl, ru⟩ := Zev r
 cases ru
 obtain ⟨its, vx, ht, _⟩ := I.list ha
 have hlen := vx.length
 rw [List.length_map] at hlen
 have hlt : a < s.heap.objs.size := by obtain ⟨_, e, _⟩ := ht.isList; exact Heap.lt_size e
 refine call_all_walk (wpAny_pyIter_list ht.isList ?_)
 refine ⟨_, _, _, _, _, _, fun i => bs.getD i false, rfl, Walks.list (A := X.A.in1) (I.ok.hd hc) _ a (Nat.ne_of_lt hlt) its.toArray, ⟨⟨_, Heap.get?_push_size _ rfl, rfl, rfl⟩, ht.isList.push _⟩, ?_, fun h' tk hk => ?_⟩
 ·intro i v s' Q' E' hv hq
  have hv' : its[i]? = some v := by simpa using hv
  have hi := (List.getElem?_eq_some_iff.mp hv').1
  have hib : i < bs.length := by lia
  obtain ⟨u', eu, ru⟩ := vx.get (i := i) (x := .bl bs[i]) (by rw [List.getElem?_map, List.getElem?_eq_getElem hib]; rfl)
  rw [hv'] at eu
  cases eu
  cases ru
  have e : bs.getD i false = bs[i] := by simp [hib]
  have hq : Q' (bs.getD i false) s' := hq
  rw [e] at hq
  exact wpAny_truthy_bool hq
 ·have hsz : its.toArray.size = bs.length := by simp; lia
  rw [hsz, ZjI]
  refine ⟨.bl _, H, I.kept fun b o e => ?_, rfl, q⟩
  refine hk b o (fun hm => ?_) (Heap.get?_push_of_some _ e)
  have : b = s.heap.objs.size := by simpa using hm
  rw [this] at e
  exact absurd (Heap.lt_size e) (Nat.lt_irrefl _)
theorem ZhA {K : PySem.W.Frag} (h : X.K = K) (hc : X.calm = true) : ZbU X (.builtin "all") (rAll K) := h ▸ ZjC hc
end
end L2
end
section
namespace L2
open PySem
inductive Rw where
 | put (p n : Int) | copy (p q : Int) | plus (p q r : Int) | less (p q r : Int) | times (p q n : Int) | take (p : Int) | tell (p : Int) | jump (t : Int) | zero (p t : Int) | below (p t : Int) | call (p f : Int) (qs : List Int) | back (p : Int)
noncomputable def Rw.row : Rw -> Str × List D
 | .put p n => ("put", [.int p, .int n])
 | .copy p q => ("copy", [.int p, .int q])
 | .plus p q r => ("plus", [.int p, .int q, .int r])
 | .less p q r => ("less", [.int p, .int q, .int r])
 | .times p q n => ("times", [.int p, .int q, .int n])
 | .take p => ("take", [.int p])
 | .tell p => ("tell", [.int p])
 | .jump t => ("jump", [.int t])
 | .zero p t => ("zero", [.int p, .int t])
 | .below p t => ("below", [.int p, .int t])
 | .call p f qs => ("call", [.int p, .int f, .tup (qs.map D.int)])
 | .back p => ("back", [.int p])
structure Df where
 takes : Int
 boxes : Int
 rows : List Rw
inductive En where
 | back (n : Int) | dry (f at' : Int) | deep (f at' : Int)
noncomputable def En.d : Option En -> D
 | none => .non
 | some (.back n) => .tup [.str "back", .int n]
 | some (.dry f a) => .tup [.str "dry", .int f, .int a]
 | some (.deep f a) => .tup [.str "deep", .int f, .int a]
noncomputable abbrev Fr := Int × Int × List Int
structure HS where
 frames : List Fr
 left : List Int
 news : List Int
 gone : Int
 fin : Option En
noncomputable def rowsD (rs : List Rw) : List D := rs.map fun r => rowD r.row
noncomputable def DfAt (own : List Addr) (H : Hp) (d : Df) (v : V) : Prop := ∃ t q ys, v = .ref t /\ H t = some (.tup [.int d.takes, .int d.boxes, .ref q]) /\ H q = some (.lst ys) /\ q ∉ own /\ Reps H (rowsD d.rows) ys
noncomputable def PgAt (own : List Addr) (H : Hp) (P : List Df) (pp : Addr) : Prop := ∃ vs, H pp = some (.lst vs) /\ pp ∉ own /\ vs.length = P.length /\ ∀ (i : Nat) (d : Df) (v : V), P[i]? = some d -> vs[i]? = some v -> DfAt own H d v
end L2
end
section
namespace L2
open PySem
noncomputable def hflds (a b c d e f : V) : List (Str × V) := [("program", a), ("frames", b), ("news", c), ("gone", d), ("left", e), ("end", f)]
section
variable {a b c d e f v : V}
end
noncomputable def AllAt (H : Hp) (l : List (Addr × HO)) : Prop := ∀ e ∈ l, H e.1 = some e.2
noncomputable abbrev FZ := (Addr × Addr) × Fr
noncomputable def frObj (z : FZ) : List (Addr × HO) := [(z.1.1, .lst [.int z.2.1, .int z.2.2.1, .ref z.1.2]), (z.1.2, .lst (z.2.2.2.map V.int))]
noncomputable def hObjs (C p dx pp pf pn pl : Addr) (fz : List FZ) (h : HS) (ve : V) : List (Addr × HO) :=
 [(p, .ins C dx (hflds (.ref pp) (.ref pf) (.ref pn) (.int h.gone) (.ref pl) ve)), (pf, .lst (fz.map fun z => V.ref z.1.1)), (pn, .lst (h.news.map V.int)), (pl, .lst (h.left.map V.int))] ++ fz.flatMap frObj
noncomputable def ownA (p pf pn pl : Addr) (fz : List FZ) : List Addr := [p, pf, pn, pl] ++ fz.flatMap fun z => [z.1.1, z.1.2]
structure HA (C p dx pp pf pn pl : Addr) (fz : List FZ) (H : Hp) (P : List Df) (h : HS) (ve : V) : Prop where
 all : AllAt H (hObjs C p dx pp pf pn pl fz h ve)
 nd : (ownA p pf pn pl fz).Nodup
 en : Rep H (En.d h.fin) ve
 pg : PgAt (ownA p pf pn pl fz) H P pp
 fr : fz.map (·.2) = h.frames
section
variable {C p dx pp pf pn pl : Addr} {fz : List FZ} {H : Hp} {P : List Df} {h : HS} {ve : V}
end
end L2
end
section
namespace L2
open PySem
theorem ZkU {α : Type} {l : List α} {x : α} : atI (l ++ [x]) (-1) = some x := by
 unfold atI ixN
 rw [if_neg (by lia), if_pos (by simp; lia)]
 simp
 rw [show (-1 + ((l.length : Int) + 1)).toNat = l.length by lia]
 simp
section
variable {C p dx pp pf pn pl : Addr} {fz : List FZ} {z : FZ} {H : Hp} {P : List Df} {h : HS} {ve : V}
end
end L2
end
section
namespace L2
open PySem PySem.Spec PyProof.Rows
section
variable {X : Cx} {pins : List (Addr × Obj)} {σ : St} {H : Hp} {s : Shared} {h' : Heap}
theorem Inv.turnedL {t' : Nat} {fp : List Addr} (I : Inv X pins σ H s) (k : ∀ b o, b ∉ fp -> s.heap.get? b = some o -> h'.get? b = some o) (hf : ∀ b ∈ fp, FpOk X pins H b) : Inv X pins σ H { s with heap := h', toks := t' } := by
 have nit : ∀ b u, H b = some u -> b ∉ fp := fun b u e z => by rw [(hf b z).1] at e; cases e
 refine I.step (g' := s.gens) (d' := s.drawn) (ch := fp) (fun b hb => ?_) (fun b o _ _ hc e _ => k b o hc e) (fun b o _ _ hc e _ => ⟨o.slots, k b o hc e⟩) (fun _ _ _ _ n => n)
  (fun b o hc e => ⟨o, k b o hc e⟩) (fun _ _ e => e) (fun _ _ _ e => e) (fun b ps e => ⟨#[], by rw [e]; simp⟩) (fun m hm => ?_) (fun b u e => ?_) I.bare
 ·obtain ⟨f0, f1, f2, f3, f4, f5⟩ := hf b hb
  exact ⟨f3, f1, f4, f5⟩
 ·obtain ⟨o, es, ep, ho, r⟩ := hm
  exact ⟨o, es, ep, k _ o (fun z => (hf _ z).2.1 rfl) ho, r⟩
 ·refine (I.hok b u e).stay (fun c v hc q => k c v ?_ q) (fun _ q => q) fun _ _ q => q
  rcases hc with z | z
  ·rw [z]; exact nit b u e
  ·exact nit c _ z
theorem ZkI {h : Heap} {o u : Obj} {b : Addr} (ho : o.isFreed = false) (e : (h.push o).get? b = some u) : h.get? b = some u \/ (b = h.objs.size /\ u = o) := by
 have hb := Heap.lt_size e
 rw [Heap.size_push] at hb
 by_cases hbe : b = h.objs.size
 ·subst hbe
  rw [Heap.get?_push_size h ho] at e
  exact .inr ⟨rfl, (Option.some.inj e).symm⟩
 ·have hlt : b < h.objs.size := Nat.lt_of_le_of_ne (Nat.le_of_lt_succ hb) hbe
  left
  rw [<- e]
  unfold Heap.get? Heap.push
  simp [Array.getElem?_push_lt, hlt, Array.getElem?_eq_getElem hlt]
end
theorem ZhP (n l1 l2 : Nat) (h1 : l1 < n) (h2 : l2 < n) : ZipApart (n + 4) (n + 2) (n + 3) n (n + 1) l1 l2 := by
 constructor <;> exact fun z => by
  have z' := congrArg (fun x : Nat => x) z
  lia
section
variable {X : Cx} {tg : Expr}
end
end L2
end
section
namespace L2
open PySem PySem.Spec PyProof.Rows
section
variable {X : Cx} {pins : List (Addr × Obj)} {σ : St} {H : Hp} {s : Shared}
end
section
variable {X : Cx}
end
end L2
end
section
namespace L2
open PySem
section
variable {P : List Df} {h : HS}
end
end L2
end
section
namespace L2
open PySem
section
variable {kp own : List Addr} {H0 H H' : Hp}
theorem apart {own own' oth : List Addr} (new : ∀ x ∈ own', x ∈ own \/ H x = none) (d : ∀ x ∈ oth, x ∉ own) (al : ∀ x ∈ oth, H x ≠ none) : ∀ x ∈ oth, x ∉ own' := fun x hx m => by
 rcases new x m with h | h
 ·exact d x hx h
 ·exact al x hx h
end
section
variable {kp own : List Addr} {H0 H H' : Hp} {P : List Df} {pp : Addr}
end
end L2
end
section
namespace L2
open PySem PySem.Spec PyProof.Rows
section
variable {X : Cx} {pins : List (Addr × Obj)} {σ : St} {H : Hp} {s : Shared}
end
section
variable {H : Hp}
end
end L2
end
section
namespace L2
open PySem
section
variable {ow : List Addr} {H0 H H' : Hp} {L L' l1 l2 : List (Addr × HO)} {R R' : List (List D × List V)} {Q : VK} {a q : Addr} {o : HO} {xs ys vs : List V} {ds : List D} {d : D} {v : V}
end
section
variable {b l : Addr} {H0 H H' : Hp} {L L' l1 l2 : List (Addr × HO)} {R R' : List (List D × List V)} {Q : VK} {E : XK} {a q : Addr} {o : HO} {xs ys vs : List V} {ds : List D} {d : D} {v : V}
end
theorem Zb3 {K : PySem.W.Frag} {H : Hp} {p : Addr} {ys : List V} {Q : VK} (h : SqT K H p ys) (q : Q (.int ys.length) H) : rLen K [.ref p] H Q := ⟨_, _, rfl, .inr ⟨ys, h, rfl⟩, q⟩
section
variable {ow : List Addr} {b l : Addr} {K : PySem.W.Frag} {H0 H H' : Hp} {L L' l1 l2 : List (Addr × HO)} {R R' : List (List D × List V)} {Q : VK} {E : XK} {a q p : Addr} {o : HO} {xs ys zs vs : List V} {ds : List D} {d : D} {v : V}
end
theorem Zmy {X : Cx} {K : PySem.W.Frag} (h : X.K = K) : SlR X (rSlT K) := h ▸ Zk3
theorem Zf4 {K : PySem.W.Frag} {H : Hp} {a : Addr} {x : V} {xs : List V} {Q : VK} (h : H a = some (.tup (x :: xs))) (q : ∀ p, H p = none -> Q (.ref p) (upd H p (.tup xs))) : rSlT K (.ref a) (some 1) none H Q := by
 refine ⟨a, x :: xs, rfl, SqT.of h, fun z => ?_, fun p hp => ?_⟩
 ·have := z.1
  simp [HT.sIx] at this
 ·have e : cutV (x :: xs) (some 1) none = xs := Zch (xs := x :: xs) (k := 1) (by simp)
  rw [e]; exact q p hp
end L2
end
section
namespace HT
open PySem PySem.Spec PyProof.Rows L2
section
variable {prog : Program} {w : World} {A : Around} {E : Value -> Shared -> Prop} {s : Shared}
theorem cat_tup0 {t b : Addr} {vs ws : List Value} {Q : Value -> Shared -> Prop} (ht : IsTup s.heap t vs.toArray) (hb : IsTup s.heap b ws.toArray) (hv : vs = []) (h1 : Q (.ref b) s) : wpAny (model prog w) A (binaryOp .Add (.ref t) (.ref b)) Q E s := by
 obtain ⟨⟨cls, dd, data, sl⟩, ho, hc, n, hd⟩ := id ht
 obtain ⟨⟨cls2, dd2, data2, sl2⟩, ho2, hc2, n2, hd2⟩ := id hb
 simp only at hc hd hc2 hd2
 subst hc hd hc2 hd2
 exact concat_meets ⟨_, ho, rfl⟩ ⟨_, ho2, rfl⟩ noFill_tuple_add seq_tuple_add PySem.F.slot_tuple_add PySem.F.entry_tuple_add (PySem.F.args_tuple_add_2 _ _) (tuple_addW0 t b vs.toArray ws.toArray n n2 dd dd2 sl sl2 (by simp [hv])) ⟨ho, ho2, h1⟩
theorem getItem_tuple_all {t sl : Addr} {items : Array Value} {vl vu : Value} {lo hi : Option Int} {Q : Value -> Shared -> Prop} (ht : IsTup s.heap t items) (hs : s.heap.IsSliceOf sl vl vu .none) (pl : IsPart vl lo) (pu : IsPart vu hi)
  (hw : sIx items.size 0 lo = 0 /\ sIx items.size items.size hi = items.size) (h : Q (.ref t) s) : wpAny (model prog w) A (getItem (.ref t) (.ref sl)) Q E s := by
 obtain ⟨os, hos, hcs, hds⟩ := id hs
 have hTs : s.TypeIs (.ref sl) "slice" := ⟨os, hos, hcs⟩
 unfold getItem
 try with_reducible refine wpAny_holding ?_
 first | refine wpAny_bind (wpAny_pure ?_) | skip
 refine wpAny_bind (wpAny_sequenceKey ht.typeIs (by decide) ?_)
 refine wpAny_bind (wpAny_callSpecial?_slot (name := Str.ofString "__getitem__") ht.typeIs PyProof.Rows.slot_tuple_getitem
  (wpAny_call_entry PyProof.Rows.slot_tuple_getitem ht.typeIs entry_tuple_getitem ?_ (args_tuple_getitem _ _)))
 show wpAny _ _ (Builtin.Tuple.tupleItemsOf (.ref t) >>= _) _ _ s
 refine wpAny_bind (tupleItemsOf_ ht ?_)
 refine wpAny_bind (wpAny_typeOf hTs ?_)
 rw [if_pos (by decide)]
 refine wpAny_bind (Zcz hs pl pu ?_)
 have hyes : ((((sIx items.size 0 lo : Nat) : Int) == 0 && (1 : Int) == 1 && (sIx items.size items.size hi - sIx items.size 0 lo) == items.size) = true) := by
  rw [hw.1, hw.2]; simp
 show wpAny _ _ (if (((sIx items.size 0 lo : Nat) : Int) == 0 && (1 : Int) == 1 && (sIx items.size items.size hi - sIx items.size 0 lo) == items.size) = true then _ else _) _ _ s
 rw [if_pos hyes]
 refine wpAny_bind ?_
 refine wpAny_bind ?_
 refine wpAny_typeOf ht.typeIs (wpAny_pure ?_)
 rw [if_pos (by decide)]
 exact wpAny_bind (wpAny_rule (wpAny_pure ⟨_, rfl, wpAny_pure h⟩))
end
end HT
namespace L2
open PySem PySem.Spec PyProof.Rows
section
variable {X : Cx} {K : PySem.W.Frag}
noncomputable def rSlW (K : PySem.W.Frag) : V -> Option Int -> Option Int -> Hp -> VK -> Prop := fun x lo hi H Q => ∃ a xs, x = .ref a /\ SqT K H a xs /\ (cutV xs lo hi = xs -> Q (.ref a) H) /\ ∀ p, H p = none -> Q (.ref p) (upd H p (.tup (cutV xs lo hi)))
theorem ZlG : SlR X (rSlW X.K) := by
 intro pins s σ H x v vl vu lo hi sl Q I rx hs pl pu h
 obtain ⟨a, xs, rfl, hx, q1, q⟩ := h
 by_cases hw : HT.sIx xs.length 0 lo = 0 /\ HT.sIx xs.length xs.length hi = xs.length
 ·cases rx
  obtain ⟨its, r, ht, hz⟩ := I.tuple hx
  have hlen : its.toArray.size = xs.length := by rw [List.size_toArray]; exact r.length.symm
  refine ⟨"tuple", _, PyProof.Rows.slot_tuple_getitem.lookup, ht.typeIs, ?_⟩
  refine HT.getItem_tuple_all ht hs pl pu (by rw [hlen]; exact hw) ?_
  refine ⟨.ref a, H, I, rfl, q1 ?_⟩
  unfold cutV
  rw [hw.1, hw.2]
  simp
 ·exact Zk3 pins s σ H _ v vl vu lo hi sl Q I rx hs pl pu ⟨a, xs, rfl, hx, hw, q⟩
theorem ZdP (h : X.K = K) : SlR X (rSlW K) := h ▸ ZlG
noncomputable def Zmf (K : PySem.W.Frag) : R2 := fun x y H Q => ∃ a b xs ys, x = .ref a /\ y = .ref b /\ SqT K H a xs /\ SqT K H b ys /\ xs.length + ys.length <= sizeLine /\
 (xs = [] -> Q (.ref b) H) /\ (ys = [] -> Q (.ref a) H) /\ ∀ p, H p = none -> Q (.ref p) (upd H p (.tup (xs ++ ys)))
theorem Zmm : OpR X (binaryOp .Add) (Zmf X.K) := by
 intro pins s σ H x y v u Q I rx ry h
 obtain ⟨a, b, xs, ys, rfl, rfl, ha, hb, hz, q0, q1, q2⟩ := h
 by_cases hx : xs = []
 ·cases rx
  cases ry
  obtain ⟨its, r1, p1, _⟩ := I.tuple ha
  obtain ⟨its2, r2, p2, _⟩ := I.tuple hb
  exact HT.cat_tup0 p1 p2 (r1.nil_iff.mpr hx) ⟨.ref b, H, I, rfl, q0 hx⟩
 ·exact ZiS pins s σ H _ _ v u Q I rx ry ⟨a, b, xs, ys, rfl, rfl, ha, hb, hx, hz, q1, fun _ => q2⟩
theorem Zcg (h : X.K = K) : OpR X (binaryOp .Add) (Zmf K) := h ▸ Zmm
end
theorem Zce {K : PySem.W.Frag} {H : Hp} {a : Addr} {xs : List V} {lo hi : Option Int} {Q : VK} (h : H a = some (.tup xs)) (q : ∀ p H', H' p = some (.tup (cutV xs lo hi)) -> Same H H' -> Q (.ref p) H') : rSlW K (.ref a) lo hi H Q :=
 ⟨a, xs, rfl, SqT.of h, fun e => q a H (by rw [e]; exact h) (Same.refl _), fun p hp => q p _ Zac (Same.new hp)⟩
theorem ZbF {K : PySem.W.Frag} {H : Hp} {a b : Addr} {xs ys : List V} {Q : VK} (h1 : H a = some (.tup xs)) (h2 : H b = some (.tup ys)) (hz : xs.length + ys.length <= 1000000) (q : ∀ p H', H' p = some (.tup (xs ++ ys)) -> Same H H' -> Q (.ref p) H') : Zmf K (.ref a) (.ref b) H Q :=
 ⟨a, b, xs, ys, rfl, rfl, SqT.of h1, SqT.of h2, Zax hz, fun e => q b H (by rw [e]; exact h2) (Same.refl _), fun e => q a H (by rw [e, List.append_nil]; exact h1) (Same.refl _), fun p hp => q p _ Zac (Same.new hp)⟩
end L2
end
section
namespace L2
open PySem PySem.Spec PyProof.Rows PySem.Builtin PySem.Builtin.Str
section
variable {X : Cx}
theorem ZgG : ∀ (l : List (Str × Tok)), Vals ((l.map (·.1)).map V.str) (strValues l)
 | [] => .nil
 | (z, t) :: l => .cons ⟨t, rfl⟩ (ZgG l)
theorem Zd3 (x y : Str) : (Txt.split x y).length <= x.length + 2 := by
 unfold Txt.split
 split
 ·show 1 <= _; lia
 ·split
  ·show 1 <= _; lia
  ·rw [length_partsBetween]
   have := StrLaws.occ_length_le x y 0 x.length (x.length + 1)
   lia
noncomputable def Zle : V -> List V -> Hp -> VK -> Prop := fun x vs H Q => ∃ z y, x = .str z /\ vs = [.str y] /\ (y.length == 0) = false /\ z.length + 2 <= sizeLine /\ ∀ p, H p = none -> Q (.ref p) (upd H p (.lst ((Txt.split z y).map V.str)))
theorem Zg5 : MtR X "str.split" Zle := by
 intro pins s σ H x vs v us Q I rx rv h
 obtain ⟨z, y, rfl, rfl, hy, hl, q⟩ := h
 obtain ⟨t, rfl⟩ := rx
 obtain ⟨u, rfl, ru⟩ := rv.one
 obtain ⟨t', rfl⟩ := ru
 have hn := Zd3 z y
 have fin : ∀ (l : List (Str × Tok)) (k : Nat), l.map (·.1) = Txt.split z y -> EP X pins σ Q (.ref s.heap.objs.size) { s with toks := k, heap := s.heap.push { cls := .type "list", data := .seq (strValues l).toArray } } := by
  intro l k e
  refine ⟨.ref s.heap.objs.size, _, I.laid (t' := k) (fun b u e => Heap.get?_push_of_some _ e) (Nat.le_refl _) ?_, rfl, q _ I.fresh⟩
  refine ⟨by rw [List.length_map]; lia, strValues l, 0, by rw [<- e]; exact ZgG l, Heap.get?_push_size _ rfl⟩
 have hx : z.length <= sizeLine := by lia
 have hp : (partsBetween z (occurrences z y 0 z.length (z.length + 1)) y.length).length <= sizeLine := by
  rw [length_partsBetween]
  have := StrLaws.occ_length_le z y 0 z.length (z.length + 1)
  lia
 cases h1 : (decide (z.length < y.length) || decide (strKind z < strKind y))
 ·cases hf : (occurrences z y 0 z.length (z.length + 1)).isEmpty
  ·refine call_meets F.slot_str_split (typeIs_str _ _ _) F.entry_str_split (F.args_str_split_2 _ _) (meets_str_split_sep z y t t' h1 hy hf hx hp) ?_
   show wants _ _ _ { s with toks := _, heap := s.heap.push { cls := .type "list", data := .seq (strsFrom s.toks (partsBetween z (occurrences z y 0 z.length (z.length + 1)) y.length)).toArray } }
   rw [strsFrom_eq]
   exact fin (numbered s.toks _) _ ((numbered_texts _ _).trans ((if_neg (ne_true_of_eq_false h1)).trans (if_neg (ne_true_of_eq_false hf))).symm)
  ·exact call_meets F.slot_str_split (typeIs_str _ _ _) F.entry_str_split (F.args_str_split_2 _ _) (meets_str_split_not_found z y t t' h1 hy hf) (fin [(z, t)] _ ((if_neg (ne_true_of_eq_false h1)).trans (if_pos hf)).symm)
 ·exact call_meets F.slot_str_split (typeIs_str _ _ _) F.entry_str_split (F.args_str_split_2 _ _) (meets_str_split_cannot_occur z y t t' h1) (fin [(z, t)] _ (if_pos h1).symm)
theorem ZgQ {z y : Str} {H : Hp} {Q : VK} (hy : (y.length == 0) = false) (hl : z.length + 2 <= sizeLine) (q : ∀ p, H p = none -> Q (.ref p) (upd H p (.lst ((Txt.split z y).map V.str)))) : Zle (.str z) [.str y] H Q := ⟨z, y, rfl, rfl, hy, hl, q⟩
noncomputable def Ziz : V -> List V -> Hp -> VK -> Prop := fun x vs H Q => ∃ z y, x = .str z /\ vs = [.str y] /\ Q (.bl (Txt.startswith z y)) H
theorem ZiU : MtR X "str.startswith" Ziz := by
 intro pins s σ H x vs v us Q I rx rv h
 obtain ⟨z, y, rfl, rfl, q⟩ := h
 obtain ⟨t, rfl⟩ := rx
 obtain ⟨u, rfl, ru⟩ := rv.one
 obtain ⟨t', rfl⟩ := ru
 exact call_meets F.slot_str_startswith (typeIs_str _ _ _) F.entry_str_startswith (F.args_str_startswith_2 _ _) (gives_str_startswith z y t t').meets ⟨.bl _, H, I, rfl, q⟩
theorem Zip {z y : Str} {H : Hp} {Q : VK} (q : Q (.bl (Txt.startswith z y)) H) : Ziz (.str z) [.str y] H Q := ⟨z, y, rfl, rfl, q⟩
noncomputable def rIntT : List V -> Hp -> VK -> Prop := fun xs H Q => ∃ z n, xs = [.str z] /\ PySem.intText? z = some n /\ z.length <= 640 /\ Q (.int n) H
theorem ZjB : ZbU X (.type "int") rIntT := by
 intro pins s σ H xs us Q I r h
 obtain ⟨z, n, rfl, hn, hl, q⟩ := h
 obtain ⟨u, rfl, ru⟩ := Zev r
 obtain ⟨t, rfl⟩ := ru
 exact PySem.W.KIN.call_text hn hl ⟨.int n, H, I.tok _, ⟨_, rfl⟩, q⟩
theorem Zit {z : Str} {n : Int} {H : Hp} {Q : VK} (h : PySem.intText? z = some n) (hl : z.length <= 640) (q : Q (.int n) H) : rIntT [.str z] H Q := ⟨z, n, rfl, h, hl, q⟩
noncomputable def rStrI : List V -> Hp -> VK -> Prop := fun xs H Q => ∃ i, xs = [.int i] /\ i.natAbs.log2 < 1920 /\ Q (.str (toString i)) H
theorem Zjv : ZbU X (.type "str") rStrI := ZfI
theorem ZlK {i : Int} {H : Hp} {Q : VK} (h : i.natAbs.log2 < 1920) (q : Q (.str (toString i)) H) : rStrI [.int i] H Q := ⟨i, rfl, h, q⟩
noncomputable def rInS : R2 := fun x y H Q => ∃ i j, x = .str i /\ y = .str j /\ Q (.bl (!(Builtin.Str.occurrences j i 0 j.length 1).isEmpty)) H
theorem op_inS : OpR X (compareOp .In) rInS := Zft
theorem ZlZ {c : Nat} {z : Str} {H : Hp} {Q : VK} (q : Q (.bl (decide (c ∈ z.cps.toList))) H) : rInS (.str ⟨#[c]⟩) (.str z) H Q := ⟨_, _, rfl, rfl, by rw [StrLaws.found_one]; exact q⟩
theorem Zi7 {K : PySem.W.Frag} (h : X.K = K) : MtR X "str.join" (Zmd K) := h ▸ Zmr
theorem Zf7 {K : PySem.W.Frag} {z : Str} {a : Addr} {zs : List Str} {H : Hp} {Q : VK} (ha : SqL K H a (zs.map V.str)) (hl : z.length <= 16) (hw : (zs.map (·.length)).sum + zs.length <= 1048576) (q : Q (.str (Str.join z zs)) H) : Zmd K (.str z) [.ref a] H Q :=
 ⟨z, a, zs, rfl, rfl, ha, hl, hw, by rw [show Txt.join z zs = Str.join z zs from StrLaws.glued_eq_join z zs]; exact q⟩
theorem Zmi {x z : Str} {pos : Pos} (hg : Gl X x) (h : ∃ t, X.mg x = some (.str z t)) (hd : (x == ("__debug__" : Str)) = false := by decide) : PE X (.Name x pos) (tC (.str z)) := by
 obtain ⟨t, ht⟩ := h
 intro pins s σ H Q I q
 exact Ze3 I hg ht ⟨.str z, H, I, ⟨t, rfl⟩, q⟩ hd
end
end L2
end
section
namespace L2
open PySem PySem.Spec PyProof.Rows PySem.Builtin PySem.Builtin.Str PySem.NumText
noncomputable abbrev cs (z : Str) : List Nat := z.cps.toList
theorem Zjr {x y : Str} (h : cs x = cs y) : x = y := by
 obtain ⟨a⟩ := x
 obtain ⟨b⟩ := y
 have : a = b := Array.toList_inj.mp h
 rw [this]
theorem Zhe (x y : Str) : cs (x ++ y) = cs x ++ cs y := cps_toList_append x y
theorem ZcT (x : Str) : (cs x).length = x.length := Array.length_toList
theorem len_app (x y : Str) : (x ++ y).length = x.length + y.length := by
 rw [<- ZcT, <- ZcT, <- ZcT, Zhe, List.length_append]
noncomputable def jn (c : Nat) : List (List Nat) -> List Nat
 | [] => []
 | [x] => x
 | x :: y :: r => x ++ c :: jn c (y :: r)
theorem ZcX (c : Nat) : ∀ (ps : List Str), cs (Str.join ⟨#[c]⟩ ps) = jn c (ps.map cs)
  | [] => rfl
  | [x] => rfl
  | x :: y :: r => by
    show cs (x ++ ⟨#[c]⟩ ++ Str.join ⟨#[c]⟩ (y :: r)) = _
    rw [Zhe, Zhe, ZcX c (y :: r)]
    show (cs x ++ [c]) ++ _ = cs x ++ c :: _
    rw [List.append_assoc]
    rfl
theorem jn_one {c : Nat} : ∀ {ps qs : List (List Nat)}, ps ≠ [] -> qs ≠ [] -> (∀ p ∈ ps, c ∉ p) -> (∀ q ∈ qs, c ∉ q) -> jn c ps = jn c qs -> ps = qs := by
  have cut : ∀ {x y a b : List Nat}, c ∉ x -> c ∉ y -> x ++ c :: a = y ++ c :: b -> x = y /\ a = b := by
    intro x
    induction x with
    | nil =>
      intro y a b _ hy e
      cases y with
      | nil => exact ⟨rfl, (List.cons.inj e).2⟩
      | cons d y => exact absurd ((List.cons.inj e).1 ▸ List.mem_cons_self) hy
    | cons d x ih =>
      intro y a b hx hy e
      cases y with
      | nil => exact absurd ((List.cons.inj e).1 ▸ List.mem_cons_self) hx
      | cons d' y =>
        obtain ⟨e1, e2⟩ := List.cons.inj e
        obtain ⟨e3, e4⟩ := ih (fun h => hx (List.mem_cons_of_mem _ h)) (fun h => hy (List.mem_cons_of_mem _ h)) e2
        exact ⟨by rw [e1, e3], e4⟩
  intro ps
  induction ps with
  | nil => intro qs h; exact absurd rfl h
  | cons p ps ih =>
    intro qs _ hq fp fq e
    cases qs with
    | nil => exact absurd rfl hq
    | cons q qs =>
      cases ps with
      | nil =>
        cases qs with
        | nil => exact congrArg (fun z => [z]) e
        | cons q2 qs =>
          refine absurd ?_ (fp p List.mem_cons_self)
          rw [show p = q ++ c :: jn c (q2 :: qs) from e]
          exact List.mem_append_right _ List.mem_cons_self
      | cons p2 ps =>
        cases qs with
        | nil =>
          refine absurd ?_ (fq q List.mem_cons_self)
          rw [show q = p ++ c :: jn c (p2 :: ps) from e.symm]
          exact List.mem_append_right _ List.mem_cons_self
        | cons q2 qs =>
          obtain ⟨e1, e2⟩ := cut (fp p List.mem_cons_self) (fq q List.mem_cons_self) e
          rw [e1, ih (List.cons_ne_nil _ _) (List.cons_ne_nil _ _) (fun z hz => fp z (List.mem_cons_of_mem _ hz)) (fun z hz => fq z (List.mem_cons_of_mem _ hz)) e2]
theorem ZgI (x y : Str) : Txt.split x y ≠ [] := by
 unfold Txt.split
 split
 ·exact List.cons_ne_nil _ _
 ·split
  ·exact List.cons_ne_nil _ _
  ·intro h
   have := congrArg List.length h
   rw [length_partsBetween] at this
   exact absurd this (Nat.succ_ne_zero _)
theorem ZeA {c : Nat} {ps : List Str} (h : ps ≠ []) (f : ∀ p ∈ ps, c ∉ cs p) : Txt.split (Str.join ⟨#[c]⟩ ps) ⟨#[c]⟩ = ps := by
 have e := StrLaws.join_split (Str.join ⟨#[c]⟩ ps) ⟨#[c]⟩
 have e1 := congrArg cs e
 rw [ZcX, ZcX] at e1
 have e2 := jn_one (fun z => ZgI _ _ (List.map_eq_nil_iff.mp z)) (fun z => h (List.map_eq_nil_iff.mp z)) (fun p hp => by
  obtain ⟨q, hq, rfl⟩ := List.mem_map.mp hp
  exact StrLaws.split_free _ c q hq) (fun p hp => by
  obtain ⟨q, hq, rfl⟩ := List.mem_map.mp hp
  exact f q hq) e1
 exact List.map_inj_right (f := cs) (fun _ _ => Zjr) |>.mp e2
theorem Zg8 (s : Str) : ∀ {a b : List Str}, a ≠ [] -> b ≠ [] -> Str.join s (a ++ b) = Str.join s a ++ s ++ Str.join s b
  | [], _, h, _ => absurd rfl h
  | [x], [], _, h => absurd rfl h
  | [x], y :: b, _, _ => rfl
  | x :: y :: a, b, _, hb => by
    show x ++ s ++ Str.join s (y :: a ++ b) = x ++ s ++ Str.join s (y :: a) ++ s ++ Str.join s b
    rw [Zg8 s (List.cons_ne_nil y a) hb]
    apply Zjr
    simp only [Zhe, List.append_assoc]
theorem ZfB (s : Str) : ∀ {ls : List (List Str)}, (∀ l ∈ ls, l ≠ []) -> Str.join s (ls.map (Str.join s)) = Str.join s ls.flatten
  | [], _ => rfl
  | [l], _ => by
    show Str.join s l = Str.join s (l ++ [])
    rw [List.append_nil]
  | l :: m :: ls, h => by
    show Str.join s l ++ s ++ Str.join s ((m :: ls).map (Str.join s)) = Str.join s (l ++ (m :: ls).flatten)
    have hn : (m :: ls).flatten ≠ [] := by
      intro z
      have := List.append_eq_nil_iff.mp (show m ++ ls.flatten = [] from z)
      exact h m (List.mem_cons_of_mem _ List.mem_cons_self) this.1
    rw [ZfB s (fun x hx => h x (List.mem_cons_of_mem _ hx)), Zg8 s (h l List.mem_cons_self) hn]
noncomputable def numS (n : Int) : Str := toString n
noncomputable def figs (m : Nat) : List Nat := (Nat.toDigits 10 m).map Char.toNat
theorem cs_num (m : Nat) : cs (numS (m : Int)) = figs m := PySem.W.KIN.signs_num m
theorem cs_neg (m : Nat) : cs (numS (-((m + 1 : Nat) : Int))) = 45 :: figs (m + 1) := by
 show (Str.ofString (toString (Int.negSucc m))).cps.toList = _
 rw [signs_ofString]
 show (("-" ++ Nat.repr (m + 1) : String)).toList.map Char.toNat = _
 rw [String.toList_append, List.map_append, Nat.toList_repr]
 rfl
theorem ZbW (m : Nat) : AllDigits (figs m) := by
 intro c hc
 obtain ⟨ch, hch, e⟩ := List.mem_map.mp hc
 rw [<- e]
 exact digit_range (Nat.isDigit_of_mem_toDigits (by decide) (by decide) hch)
theorem Ze6 (m : Nat) : figs m ≠ [] := by
 intro e
 have h := toDigits_len_ge 10 m
 rw [List.map_eq_nil_iff.mp e] at h
 exact absurd h (by decide)
theorem Zhd {m : Nat} (h : 10 <= m) : figs m = figs (m / 10) ++ figs (m % 10) := by
 have t : Nat.toDigits 10 (m / 10) ++ Nat.toDigits 10 (m % 10) = Nat.toDigits 10 (10 * (m / 10) + m % 10) := Nat.toDigits_append_toDigits (by decide) (by lia) (Nat.mod_lt m (by decide))
 rw [Nat.div_add_mod] at t
 unfold figs
 rw [<- t, List.map_append]
theorem Ze5 : ∀ m : Nat, m < 10 -> figs m = [48 + m] := by decide
theorem Ze7 : ∀ (k m : Nat), 0 < k -> m < 10 ^ k -> (figs m).length <= k := by
  intro k
  induction k with
  | zero => intro m h; exact absurd h (Nat.lt_irrefl _)
  | succ k ih =>
    intro m _ hm
    by_cases h : m < 10
    · rw [Ze5 m h]
      exact Nat.le_add_left _ _
    · rw [Zhd (by lia), List.length_append, Ze5 _ (Nat.mod_lt m (by decide))]
      cases k with
      | zero => lia
      | succ k =>
        have := ih (m / 10) (Nat.succ_pos _) (by rw [Nat.div_lt_iff_lt_mul (by decide)]; rw [Nat.pow_succ] at hm; exact hm)
        show _ + 1 <= _
        lia
theorem Zjj : ∀ (m : Nat), 0 < m -> ∃ c r, figs m = c :: r /\ c ≠ 48 := by
  intro m
  induction m using Nat.strongRecOn with
  | _ m ih =>
    intro hm
    by_cases h : m < 10
    · exact ⟨48 + m, [], Ze5 m h, by lia⟩
    · obtain ⟨c, r, e, n⟩ := ih (m / 10) (by lia) (by lia)
      exact ⟨c, r ++ figs (m % 10), by rw [Zhd (by lia), e]; rfl, n⟩
theorem Zhc (m : Nat) : digitsVal (figs m) = m := PySem.W.KIN.val_back m
noncomputable def Za3 (n : Int) : Prop := n.natAbs < 10 ^ 60
theorem Zde (n : Int) : (∃ m : Nat, n = m /\ cs (numS n) = figs m) \/ ∃ m : Nat, 0 < m /\ n = -(m : Int) /\ cs (numS n) = 45 :: figs m := by
 rcases Int.lt_or_le n 0 with h | h
 ·right
  refine ⟨n.natAbs, by lia, by lia, ?_⟩
  have e : n = -(((n.natAbs - 1) + 1 : Nat) : Int) := by lia
  have e2 : n.natAbs = n.natAbs - 1 + 1 := by lia
  rw [show cs (numS n) = cs (numS (-(((n.natAbs - 1) + 1 : Nat) : Int))) by rw [<- e], cs_neg, <- e2]
 ·left
  obtain ⟨m, rfl⟩ := Int.eq_ofNat_of_zero_le h
  exact ⟨m, rfl, cs_num m⟩
theorem ZiT {n : Int} (h : Za3 n) : (numS n).length <= 61 := by
 rw [<- ZcT]
 rcases Zde n with ⟨m, rfl, e⟩ | ⟨m, _, rfl, e⟩
 ·rw [e]
  have := Ze7 60 m (by decide) (by unfold Za3 at h; lia)
  lia
 ·rw [e]
  have := Ze7 60 m (by decide) (by unfold Za3 at h; lia)
  show _ + 1 <= _
  lia
theorem Zef (n : Int) : ∀ c ∈ cs (numS n), c = 45 \/ (48 <= c /\ c <= 57) := by
 intro c hc
 rcases Zde n with ⟨m, _, e⟩ | ⟨m, _, _, e⟩
 ·rw [e] at hc
  exact .inr (ZbW m c hc)
 ·rw [e] at hc
  rcases List.mem_cons.mp hc with z | z
  ·exact .inl z
  ·exact .inr (ZbW m c z)
theorem Zif {n : Int} (h : Za3 n) : n.natAbs.log2 < 1920 := by
 unfold Za3 at h
 by_cases z : n.natAbs = 0
 ·rw [z]; decide
 ·rw [Nat.log2_lt z]
  refine Nat.lt_of_lt_of_le h (Nat.le_trans (Nat.pow_le_pow_left (by decide : 10 <= 2 ^ 4) 60) ?_)
  rw [<- Nat.pow_mul]
  exact Nat.pow_le_pow_right (by decide) (by decide)
end L2
end
section
namespace L2
open PySem PySem.Spec PyProof.Rows PySem.Builtin PySem.Builtin.Str PySem.NumText
noncomputable def minus : Str := "-"
noncomputable def blank : Str := " "
noncomputable def feed : Str := "\n"
theorem Zkw : minus = ⟨#[45]⟩ := by decide
theorem Zdj : blank = ⟨#[32]⟩ := by decide
theorem Zen : feed = ⟨#[10]⟩ := by decide
noncomputable def Zcs (c : Nat) : Bool := decide (48 <= c) && decide (c <= 57)
noncomputable def figT (z : Str) : List Nat := if (cs z).head? = some 45 then (cs z).drop 1 else cs z
noncomputable def ZbZ (most : Nat) (z : Str) : Option Int :=
 if (1 <= (figT z).length /\ (figT z).length <= most) /\ (figT z).all Zcs = true then (if (figT z).head? = some 48 /\ cs z ≠ [48] then none else intText? z) else none
theorem Zfm (z : Str) : Txt.startswith z minus = decide ((cs z).head? = some 45) := by
 rw [Bool.eq_iff_iff, Zkw]
 unfold Txt.startswith
 rw [Bool.and_eq_true, decide_eq_true_eq, decide_eq_true_eq]
 have := StrLaws.subAt_one z 45 0
 rw [List.head?_eq_getElem?]
 exact this
theorem Zk2 (z : Str) (h : 1 <= z.length) : cs (Txt.slice z (some 1) none) = (cs z).drop 1 := by
 rw [slice_from_eq (b := z.length) (by decide) (by lia) rfl]
 show ((z.cps.toList.drop 1).take ((z.length : Int) - 1).toNat) = _
 rw [List.take_of_length_le]
 rw [List.length_drop]
 have : z.cps.toList.length = z.length := ZcT z
 lia
theorem isFig_of {c : Nat} : Zcs c = true ↔ 48 <= c /\ c <= 57 := by simp [Zcs]
theorem allFig {l : List Nat} : l.all Zcs = true ↔ AllDigits l := by
 rw [List.all_eq_true]
 exact ⟨fun h c hc => isFig_of.mp (h c hc), fun h c hc => isFig_of.mpr (h c hc)⟩
theorem Zhl {most : Nat} {z : Str} (hm : most <= 600) (h1 : 1 <= (figT z).length /\ (figT z).length <= most) (h2 : (figT z).all Zcs = true) : z.length <= 601 /\ ∃ n, intText? z = some n := by
  have hl := ZcT z
  have hd := allFig.mp h2
  unfold figT at h1 hd
  split at h1
  · next e =>
    rw [if_pos e] at hd
    cases ez : cs z with
    | nil => rw [ez] at e; cases e
    | cons c r =>
      rw [ez] at e h1 hd hl
      cases e
      have hr : (List.drop 1 (45 :: r)) = r := rfl
      rw [hr] at h1 hd
      simp only [List.length_cons] at hl
      exact ⟨by lia, _, intText_neg ez hd (fun z => by rw [z] at h1; exact absurd h1.1 (by decide)) (by lia)⟩
  · next e =>
    rw [if_neg e] at hd
    exact ⟨by lia, _, intText_digits hd (fun z => by rw [show cs _ = [] from z] at h1; exact absurd h1.1 (by decide)) (by lia)⟩
theorem ZmI (n : Int) : ∃ m : Nat, n.natAbs = m /\ figT (numS n) = figs m := by
 rcases Zde n with ⟨m, rfl, e⟩ | ⟨m, hm, rfl, e⟩
 ·refine ⟨m, by lia, ?_⟩
  unfold figT
  rw [e]
  obtain ⟨c, r, ec⟩ : ∃ c r, figs m = c :: r := by
   cases h : figs m with
   | nil => exact absurd h (Ze6 m)
   | cons c r => exact ⟨c, r, rfl⟩
  rw [if_neg]
  intro z
  have hc := ZbW m c (by rw [ec]; exact List.mem_cons_self)
  rw [ec] at z
  cases z
  lia
 ·refine ⟨m, by lia, ?_⟩
  unfold figT
  rw [e]
  rfl
theorem ZhR {n : Int} (h : Za3 n) : ZbZ 60 (numS n) = some n := by
 obtain ⟨m, em, ef⟩ := ZmI n
 have hl := Ze7 60 m (by decide) (by rw [<- em]; exact h)
 have hp : 1 <= (figs m).length := List.length_pos_iff.mpr (Ze6 m)
 unfold ZbZ
 rw [ef, if_pos ⟨⟨hp, hl⟩, allFig.mpr (ZbW m)⟩]
 have hx : ¬ ((figs m).head? = some 48 /\ cs (numS n) ≠ [48]) := by
  rintro ⟨h1, h2⟩
  by_cases z : m = 0
  ·subst z
   apply h2
   obtain rfl : n = 0 := by lia
   decide
  ·obtain ⟨c, r, e, hc⟩ := Zjj m (Nat.pos_of_ne_zero z)
   rw [e] at h1
   cases h1
   exact hc rfl
 rw [if_neg hx]
 have hs := ZiT h
 rcases Zde n with ⟨k, rfl, e⟩ | ⟨k, hk, rfl, e⟩
 ·have q := intText_digits (x := numS (k : Int)) (by show AllDigits (cs _); rw [e]; exact ZbW k) (by show cs _ ≠ []; rw [e]; exact Ze6 k) (by lia)
  rw [q]
  show some (((digitsVal (cs (numS (k : Int))) : Nat) : Int)) = _
  rw [e, Zhc]
 ·rw [intText_neg (x := numS (-(k : Int))) e (ZbW k) (Ze6 k) (by lia), Zhc]
theorem Zeh : ∀ {ns : List Int}, (∀ n ∈ ns, Za3 n) -> (ns.map numS).mapM (ZbZ 60) = some ns
  | [], _ => rfl
  | n :: ns, h => by
    rw [List.map_cons, List.mapM_cons, ZhR (h n List.mem_cons_self), Zeh fun x hx => h x (List.mem_cons_of_mem _ hx)]
    rfl
noncomputable def Zcy : Str := "call"
noncomputable def defW : Str := "def"
noncomputable def rowP (w : Str) (ns : List Int) : Option (Str × List D) := match partsT.lookup w with
 | none => none
 | some ks => if w = Zcy then (match ns with
   | a :: b :: qs => some (Zcy, [.int a, .int b, .tup (qs.map D.int)])
   | _ => none) else if ns.length = ks.length then some (w, ns.map D.int) else none
noncomputable def ZfW (acc : List PDef) (r : Str × List D) : List PDef := match acc.getLast? with
 | some d => acc.dropLast ++ [(d.1, d.2.1, d.2.2 ++ [r])]
 | none => []
noncomputable def Zge (acc : List PDef) (w : Str) (ns : List Int) : Option (List PDef) :=
 if w = defW then (match ns with
  | [a, b] => some (acc ++ [(a, b, [])])
  | _ => none) else if acc = [] then none else (rowP w ns).map (ZfW acc)
noncomputable def ZcJ (acc : List PDef) (line : Str) : Option (List PDef) := match Txt.split line blank with
  | [] => none
  | w :: ws => match ws.mapM (ZbZ 60) with
    | none => none
    | some ns => Zge acc w ns
noncomputable def Zf2 (z : Str) : Option (List PDef) := (Txt.split z feed).foldlM ZcJ []
noncomputable def rowT (w : Str) (ns : List Int) : Str := Str.join blank (w :: ns.map numS)
noncomputable def intD : D -> List Int
 | .int n => [n]
 | _ => []
noncomputable def numD : D -> List Int
 | .int n => [n]
 | .tup ds => ds.flatMap intD
 | _ => []
noncomputable def ZbE (r : Str × List D) : List Int := r.2.flatMap numD
theorem Zfv : ∀ (ns : List Int), (ns.map D.int).flatMap numD = ns
  | [] => rfl
  | n :: ns => by
    rw [List.map_cons, List.flatMap_cons, Zfv ns]
    rfl
theorem ZeE : ∀ (ns : List Int), (ns.map D.int).flatMap intD = ns
  | [] => rfl
  | n :: ns => by
    rw [List.map_cons, List.flatMap_cons, ZeE ns]
    rfl
structure RowR (r : Str × List D) : Prop where
 row : rowP r.1 (ZbE r) = some r
 num : ∀ n ∈ ZbE r, Za3 n
structure DefR (d : PDef) : Prop where
 takes : Za3 d.1
 boxes : Za3 d.2.1
 rows : ∀ r ∈ d.2.2, RowR r
noncomputable def Zgm (d : PDef) : Str := rowT defW [d.1, d.2.1]
noncomputable def defL (d : PDef) : List Str := Zgm d :: d.2.2.map fun r => rowT r.1 (ZbE r)
noncomputable def Zga (ds : List PDef) : Str := Str.join feed (ds.map fun d => Str.join feed (defL d))
theorem Zc4 {w : Str} {ns : List Int} {r : Str × List D} (h : rowP w ns = some r) : (32 ∉ cs w /\ 10 ∉ cs w) /\ w ≠ defW /\ w.length <= 10 := by
  have hk : ∀ q ∈ partsT, (32 ∉ cs q.1 /\ 10 ∉ cs q.1) /\ q.1 ≠ defW /\ q.1.length <= 10 := by decide +kernel
  unfold rowP at h
  split at h
  · cases h
  · next ks e =>
    have : ∀ (l : List (Str × List Str)), l.lookup w = some ks -> (w, ks) ∈ l := by
      intro l
      induction l with
      | nil => intro h; cases h
      | cons q l ih =>
        intro h
        obtain ⟨a, b⟩ := q
        rw [List.lookup_cons] at h
        split at h
        · next e => cases h; rw [beq_iff_eq.mp e]; exact List.mem_cons_self
        · exact List.mem_cons_of_mem _ (ih h)
    exact hk _ (this _ e)
theorem Zg1 (n : Int) : 32 ∉ cs (numS n) /\ 10 ∉ cs (numS n) := ⟨fun h => by have := Zef n _ h; lia, fun h => by have := Zef n _ h; lia⟩
theorem Zi8 {c d : Nat} (hcd : c ≠ d) : ∀ {ps : List (List Nat)}, (∀ p ∈ ps, c ∉ p) -> c ∉ jn d ps
  | [], _ => List.not_mem_nil
  | [x], h => h x List.mem_cons_self
  | x :: y :: r, h => by
    show c ∉ x ++ d :: jn d (y :: r)
    intro z
    rcases List.mem_append.mp z with z | z
    · exact h x List.mem_cons_self z
    · rcases List.mem_cons.mp z with z | z
      · exact hcd z
      · exact Zi8 hcd (fun p hp => h p (List.mem_cons_of_mem _ hp)) z
theorem Zfo {w : Str} {ns : List Int} (h : 32 ∉ cs w) : Txt.split (rowT w ns) blank = w :: ns.map numS := by
 unfold rowT
 rw [Zdj]
 refine ZeA (List.cons_ne_nil _ _) fun p hp => ?_
 rcases List.mem_cons.mp hp with rfl | hp
 ·exact h
 ·obtain ⟨n, _, rfl⟩ := List.mem_map.mp hp
  exact (Zg1 n).1
theorem ZgP {w : Str} {ns : List Int} (h : 10 ∉ cs w) : 10 ∉ cs (rowT w ns) := by
 unfold rowT
 rw [Zdj, ZcX]
 refine Zi8 (by decide) fun p hp => ?_
 obtain ⟨q, hq, rfl⟩ := List.mem_map.mp hp
 rcases List.mem_cons.mp hq with rfl | hq
 ·exact h
 ·obtain ⟨n, _, rfl⟩ := List.mem_map.mp hq
  exact (Zg1 n).2
theorem Zkz {acc : List PDef} {r : Str × List D} (h : RowR r) (ha : acc ≠ []) : ZcJ acc (rowT r.1 (ZbE r)) = some (ZfW acc r) := by
 have hw := Zc4 h.row
 unfold ZcJ
 rw [Zfo hw.1.1]
 show (match ((ZbE r).map numS).mapM (ZbZ 60) with | none => none | some ns => Zge acc r.1 ns) = _
 rw [Zeh h.num]
 show Zge acc r.1 (ZbE r) = _
 unfold Zge
 rw [if_neg hw.2.1, if_neg ha, h.row]
 rfl
theorem Zi0 {acc : List PDef} {d : PDef} (h1 : Za3 d.1) (h2 : Za3 d.2.1) : ZcJ acc (Zgm d) = some (acc ++ [(d.1, d.2.1, [])]) := by
 unfold ZcJ Zgm
 rw [Zfo (by decide)]
 show (match ([d.1, d.2.1].map numS).mapM (ZbZ 60) with | none => none | some ns => Zge acc defW ns) = _
 rw [Zeh (by
  intro n hn
  simp only [List.mem_cons, List.not_mem_nil, or_false] at hn
  rcases hn with rfl | rfl <;> assumption)]
 rfl
theorem Zeu {acc : List PDef} {d : PDef} {r : Str × List D} : ZfW (acc ++ [d]) r = acc ++ [(d.1, d.2.1, d.2.2 ++ [r])] := by
 unfold ZfW
 rw [List.getLast?_concat, List.dropLast_concat]
theorem ZeF : ∀ {rs : List (Str × List D)} {acc : List PDef} {d : PDef}, (∀ r ∈ rs, RowR r) -> (rs.map fun r => rowT r.1 (ZbE r)).foldlM ZcJ (acc ++ [d]) = some (acc ++ [(d.1, d.2.1, d.2.2 ++ rs)])
  | [], acc, d, _ => by rw [List.append_nil]; rfl
  | r :: rs, acc, d, h => by
    rw [List.map_cons, List.foldlM_cons, Zkz (h r List.mem_cons_self) (by simp), Zeu]
    show (rs.map fun r => rowT r.1 (ZbE r)).foldlM ZcJ (acc ++ [(d.1, d.2.1, d.2.2 ++ [r])]) = _
    rw [ZeF fun x hx => h x (List.mem_cons_of_mem _ hx)]
    simp
theorem ZiZ {acc : List PDef} {d : PDef} (h : DefR d) : (defL d).foldlM ZcJ acc = some (acc ++ [d]) := by
 unfold defL
 rw [List.foldlM_cons, Zi0 h.takes h.boxes]
 show (d.2.2.map fun r => rowT r.1 (ZbE r)).foldlM ZcJ (acc ++ [(d.1, d.2.1, [])]) = _
 rw [ZeF h.rows]
 rfl
theorem ZeG : ∀ {ds acc : List PDef}, (∀ d ∈ ds, DefR d) -> (ds.map defL).flatten.foldlM ZcJ acc = some (acc ++ ds)
  | [], acc, _ => by rw [List.append_nil]; rfl
  | d :: ds, acc, h => by
    rw [List.map_cons, List.flatten_cons, List.foldlM_append, ZiZ (h d List.mem_cons_self)]
    show (ds.map defL).flatten.foldlM ZcJ (acc ++ [d]) = _
    rw [ZeG fun x hx => h x (List.mem_cons_of_mem _ hx)]
    simp
theorem Zdr (ds : List PDef) : Zga ds = Str.join feed (ds.map defL).flatten := by
 unfold Zga
 rw [<- ZfB feed (ls := ds.map defL) (fun l hl => by
  obtain ⟨d, _, rfl⟩ := List.mem_map.mp hl
  exact List.cons_ne_nil _ _), List.map_map]
 rfl
theorem ZkO {d : PDef} (h : DefR d) : ∀ l ∈ defL d, 10 ∉ cs l := by
 intro l hl
 rcases List.mem_cons.mp hl with rfl | hl
 ·exact ZgP (by decide)
 ·obtain ⟨r, hr, rfl⟩ := List.mem_map.mp hl
  exact ZgP (Zc4 (h.rows r hr).row).1.2
theorem Zhu {ds : List PDef} (hd : ds ≠ []) (h : ∀ d ∈ ds, DefR d) : Zf2 (Zga ds) = some ds := by
 unfold Zf2
 rw [Zdr, Zen, ZeA, ZeG h]
 ·rfl
 ·cases ds with
  | nil => exact absurd rfl hd
  | cons d ds => exact List.cons_ne_nil _ _
 ·intro p hp
  obtain ⟨l, hl, hp⟩ := List.mem_flatten.mp hp
  obtain ⟨d, hd', rfl⟩ := List.mem_map.mp hl
  exact ZkO (h d hd') p hp
end L2
end
section
namespace L2
open PySem PySem.Spec PyProof.Rows PySem.Builtin PySem.Builtin.Str PySem.NumText
section
variable {X : Cx}
end
noncomputable def Zei (z : Str) : Prop := z.cps.all (· < 128) = true
theorem asc_mem {z : Str} : Zei z ↔ ∀ c ∈ cs z, c < 128 := by
 unfold Zei
 rw [<- Array.all_toList, List.all_eq_true]
 simp
theorem fig_in (c : Nat) : Zcs c = decide (c ∈ (Str.ofString "0123456789").cps.toList) := by
 by_cases h : c < 58
 ·exact (by decide +kernel : ∀ c < 58, Zcs c = decide (c ∈ (Str.ofString "0123456789").cps.toList)) c h
 ·have h1 : ¬ (c ∈ (Str.ofString "0123456789").cps.toList) := fun z => h ((by decide +kernel : ∀ x ∈ (Str.ofString "0123456789").cps.toList, x < 58) c z)
  rw [decide_eq_false h1]
  unfold Zcs
  simp
  lia
end L2
end
section
namespace L2
inductive Ex2 {α0 α1 : Type} (p : α0 -> α1 -> Prop) : Prop
 | mk (a : α0) (b : α1) (h : p a b) : Ex2 p
inductive Ex4 {α0 α1 α2 α3 : Type} (p : α0 -> α1 -> α2 -> α3 -> Prop) : Prop
 | mk (a : α0) (b : α1) (c : α2) (d : α3) (h : p a b c d) : Ex4 p
inductive Ex5 {α0 α1 α2 α3 α4 : Type} (p : α0 -> α1 -> α2 -> α3 -> α4 -> Prop) : Prop
 | mk (a : α0) (b : α1) (c : α2) (d : α3) (e : α4) (h : p a b c d e) : Ex5 p
inductive Ex6 {α0 α1 α2 α3 α4 α5 : Type} (p : α0 -> α1 -> α2 -> α3 -> α4 -> α5 -> Prop) : Prop
 | mk (a : α0) (b : α1) (c : α2) (d : α3) (e : α4) (f : α5) (h : p a b c d e f) : Ex6 p
inductive An3 (a b c : Prop) : Prop
 | mk (h0 : a) (h1 : b) (h2 : c) : An3 a b c
inductive An4 (a b c d : Prop) : Prop
 | mk (h0 : a) (h1 : b) (h2 : c) (h3 : d) : An4 a b c d
inductive An5 (a b c d e : Prop) : Prop
 | mk (h0 : a) (h1 : b) (h2 : c) (h3 : d) (h4 : e) : An5 a b c d e
inductive An6 (a b c d e f : Prop) : Prop
 | mk (h0 : a) (h1 : b) (h2 : c) (h3 : d) (h4 : e) (h5 : f) : An6 a b c d e f
inductive An7 (a b c d e f g : Prop) : Prop
 | mk (h0 : a) (h1 : b) (h2 : c) (h3 : d) (h4 : e) (h5 : f) (h6 : g) : An7 a b c d e f g
inductive An8 (a b c d e f g h : Prop) : Prop
 | mk (h0 : a) (h1 : b) (h2 : c) (h3 : d) (h4 : e) (h5 : f) (h6 : g) (h7 : h) : An8 a b c d e f g h
inductive An9 (a b c d e f g h i : Prop) : Prop
 | mk (h0 : a) (h1 : b) (h2 : c) (h3 : d) (h4 : e) (h5 : f) (h6 : g) (h7 : h) (h8 : i) : An9 a b c d e f g h i
end L2
end
section
namespace L2
open PySem PySem.Spec PyProof.Rows
theorem ZlM {t u : TS} {D' : Ends} {σ : St} {H : Hp} (h : let D1 : Ends := { D' with nx := u D' }; t D1 σ H) : tSeq t u D' σ H := h
theorem Ziu {n : Nat} {v : V} {σ : St} {H : Hp} {R : St -> Hp -> Prop} (h : let σ1 : St := σ.set n (some v); R σ1 H) : ZdQ n v σ H R := h
theorem Zkj {sp : Sp} {dvs : List V} {E : XK} {ta : TA} {σ : St} {H : Hp} {Q : VK} (h : let Q1 : VK := Q; ta σ H fun vs H1 => sp (vs ++ dvs) H1 Q1 E) : Zhq sp dvs E ta σ H Q := h
section
variable {r : R2} {n m : Nat} {c c' v u : V} {σ : St} {H : Hp} {Q : VK} {ta tb te : TE} {tr : TA} {R : List V -> Hp -> Prop} {D' : Ends} {t t' : TS} {g : TG} {us : TS}
theorem ZlT (e : σ[n]? = some (some v)) (h : r v c H Q) : tOp r (tVar n) (tC c) σ H Q := ⟨v, e, h⟩
theorem ZlS (e : σ[n]? = some (some v)) (e' : σ[m]? = some (some u)) (h : r v u H Q) : tOp r (tVar n) (tVar m) σ H Q := ⟨v, e, u, e', h⟩
theorem rd_opV (e : σ[n]? = some (some v)) (h : tb σ H fun y H2 => r v y H2 Q) : tOp r (tVar n) tb σ H Q := ⟨v, e, h⟩
theorem rd_opC (h : tb σ H fun y H2 => r c y H2 Q) : tOp r (tC c) tb σ H Q := h
theorem Ziv (e : σ[n]? = some (some v)) (h : R [v] H) : Zcj (tVar n) tNil σ H R := ⟨v, e, h⟩
theorem Ziw (h : R [c] H) : Zcj (tC c) tNil σ H R := h
theorem Zke (e : σ[n]? = some (some v)) (h : tr σ H fun xs H2 => R (v :: xs) H2) : Zcj (tVar n) tr σ H R := ⟨v, e, h⟩
theorem Zkf (h : tr σ H fun xs H2 => R (c :: xs) H2) : Zcj (tC c) tr σ H R := h
theorem ZlO (h : let D1 : Ends := { D' with nx := us D' }; te σ H fun x H1 => g x σ H1 D1.nx) : tSeq (tAsg te g) us D' σ H := h
theorem ZlN (h : let D1 : Ends := { D' with nx := us D' }; ta σ H fun x H' => ∃ k, x = .bl k /\ if k = true then t D1 σ H' else t' D1 σ H') : tSeq (tIfS (Zhp ta) t t') us D' σ H := h
theorem rd_ifT (h : ta σ H fun x H' => ∃ k, x = .bl k /\ if k = true then t D' σ H' else t' D' σ H') : tIfS (Zhp ta) t t' D' σ H := h
theorem ZlP (e : σ[n]? = some (some v)) (h : D'.rt v H) : tRet (tVar n) D' σ H := ⟨v, e, h⟩
theorem ZlQ (h : D'.rt c H) : tRet (tC c) D' σ H := h
theorem Zl4 {i j : Int} {B : Bool -> Hp -> Prop} (h : B (decide (i = j)) H) : rEq (.int i) (.int j) H (fun x H' => ∃ k, x = .bl k /\ B k H') := Zlc (ZbG h)
theorem ZlW {i j : Int} {B : Bool -> Hp -> Prop} (h : B (!decide (i = j)) H) : rNe (.int i) (.int j) H (fun x H' => ∃ k, x = .bl k /\ B k H') := Zla (ZbG h)
theorem Zl3 {i j : Str} {B : Bool -> Hp -> Prop} (h : B (decide (i = j)) H) : rEq (.str i) (.str j) H (fun x H' => ∃ k, x = .bl k /\ B k H') := Zlb (ZbG h)
theorem ZlV {i j : Str} {B : Bool -> Hp -> Prop} (h : B (!decide (i = j)) H) : rNe (.str i) (.str j) H (fun x H' => ∃ k, x = .bl k /\ B k H') := Zk9 (ZbG h)
end
end L2
end
section
namespace L3
open PySem Builtin Builtin.Str
theorem tupIter_at {h h' : Heap} {a l : Addr} {i : Nat} (x : h.IsTupleIter a l i) (e : ∀ o, h.get? a = some o -> h'.get? a = some o) : h'.IsTupleIter a l i := let ⟨o, ho, r⟩ := x; ⟨o, e _ ho, r⟩
section
variable {prog : Program} {w : World} {A : Around} {E : Value -> Shared -> Prop} {s : Shared}
theorem Zmp {it t : Addr} {i : Nat} {items : Array Value} {x : Value} {Q : Value -> Shared -> Prop} (hit : s.heap.IsTupleIter it t i) (ht : s.heap.IsTuple t items) (hx : items[i]? = some x)
  (hQ : ∀ h', h'.IsTupleIter it t (i + 1) -> Heap.SameBut it s.heap h' -> Q x { s with heap := h' }) : wpAny (model prog w) A (Builtin.SmallTypes.nextOf (.ref it)) Q E s := by
 obtain ⟨o, ho, hc, hd⟩ := id hit
 obtain ⟨ol, hol, _, nl, hdl⟩ := ht
 unfold Builtin.SmallTypes.nextOf
 refine wpAny_bind (wpAny_callSpecial?_slot (name := Str.ofString "__next__") hit.typeIs F.slot_tuple_iterator_next (wpAny_call_entry F.slot_tuple_iterator_next hit.typeIs F.entry_tuple_iterator_next ?_ (F.args_tuple_iterator_next_1 _)))
 show wpAny _ _ (field (.ref it) 0 >>= _) _ _ s
 refine wpAny_bind (wpAny_field ho hd (x := .ref t) rfl ?_)
 show wpAny _ _ (if (Value.ref t == Value.none) = true then _ else _) _ _ s
 rw [if_neg (show ¬ ((Value.ref t == Value.none) = true) from Bool.false_ne_true)]
 show wpAny _ _ (field (.ref it) 1 >>= _) _ _ s
 refine wpAny_bind (wpAny_field ho hd (x := .int i 0) rfl ?_)
 show wpAny _ _ (seqItems? (.ref t) >>= _) _ _ s
 refine wpAny_bind (wpAny_seqItems hol hdl ?_)
 simp only [Int.toNat_natCast, hx]
 refine wpAny_bind (wpAny_setField ho hd (by simp) (wpAny_pure ⟨x, rfl, wpAny_pure (hQ _ ?_ (Heap.SameBut.update ..))⟩))
 exact ⟨_, Heap.get?_update_self _ ho (Obj.isFreed_of_fields (Obj.data_mapFields hd _)), (Obj.cls_mapFields ..).trans hc, by rw [Obj.data_mapFields hd]; simp [rawInt]⟩
theorem Zfx {it t : Addr} {i : Nat} {items : Array Value} {Q : Value -> Shared -> Prop} (hh : A.handled = none) (hit : s.heap.IsTupleIter it t i) (ht : s.heap.IsTuple t items) (hx : items[i]? = none)
  (hE : ∀ h' e, Heap.ExtBut it s.heap h' -> (∃ o, h'.get? e = some o /\ o.cls = .type "StopIteration") -> E (.ref e) { s with heap := h' }) : wpAny (model prog w) A (Builtin.SmallTypes.nextOf (.ref it)) Q E s := by
 obtain ⟨o, ho, hc, hd⟩ := id hit
 obtain ⟨ol, hol, _, nl, hdl⟩ := ht
 unfold Builtin.SmallTypes.nextOf
 refine wpAny_bind (wpAny_callSpecial?_slot (name := Str.ofString "__next__") hit.typeIs F.slot_tuple_iterator_next (wpAny_call_entry F.slot_tuple_iterator_next hit.typeIs F.entry_tuple_iterator_next ?_ (F.args_tuple_iterator_next_1 _)))
 show wpAny _ _ (field (.ref it) 0 >>= _) _ _ s
 refine wpAny_bind (wpAny_field ho hd (x := .ref t) rfl ?_)
 show wpAny _ _ (if (Value.ref t == Value.none) = true then _ else _) _ _ s
 rw [if_neg (show ¬ ((Value.ref t == Value.none) = true) from Bool.false_ne_true)]
 show wpAny _ _ (field (.ref it) 1 >>= _) _ _ s
 refine wpAny_bind (wpAny_field ho hd (x := .int i 0) rfl ?_)
 show wpAny _ _ (seqItems? (.ref t) >>= _) _ _ s
 refine wpAny_bind (wpAny_seqItems hol hdl ?_)
 simp only [Int.toNat_natCast, hx]
 refine wpAny_bind (wpAny_rule (wpAny_bind (wpAny_setField ho hd (by simp) ?_)))
 show wpAny _ _ (newExc (.type "StopIteration") [] >>= _) _ _ _
 refine wpAny_bind ?_
 simp only [newExc, newTuple]
 refine wpAny_bind (wpAny_newObj_type ?_ (by size_fits))
 refine wpAny_bind (m := firstArgMember _ _) (wpAny_of_eq (a := Value.none) (by first | rfl | (simp only [firstArgMember]; rfl)) ?_)
 refine wpAny_newObj_type ?_ (by size_fits)
 simp only [raiseNew]
 refine wpAny_bind (wpAny_handled ?_)
 first | rw [show A.in1.handled = none from hh] | rw [hh]
 refine wpAny_bind (wpAny_pure (wpAny_throw ?_))
 exact hE _ _ (((Heap.SameBut.update ..).extBut.push _).push _) ⟨_, Heap.get?_push_size _ rfl, rfl⟩
theorem ZhQ {z TI TO i1 i2 l1 l2 : Addr} {k1 k2 : Nat} {xs ys : Array Value} {x y a b : Value} {Q : Value -> Shared -> Prop} (D : ZipApart z TI TO i1 i2 l1 l2)
  (hz : IsZip s.heap z TI TO .none) (hTI : IsPair s.heap TI (.ref i1) (.ref i2)) (hTO : IsPair s.heap TO a b)
  (h1 : s.heap.IsTupleIter i1 l1 k1) (h2 : s.heap.IsTupleIter i2 l2 k2) (hl1 : s.heap.IsTuple l1 xs) (hl2 : s.heap.IsTuple l2 ys) (hx : xs[k1]? = some x) (hy : ys[k2]? = some y)
  (hQ : ∀ h', IsZip h' z TI TO (rawInt s.heap.objs.size) -> IsPair h' TO x y -> h'.IsTupleIter i1 l1 (k1 + 1) -> h'.IsTupleIter i2 l2 (k2 + 1) -> IsPair h' s.heap.objs.size x y -> h'.objs.size = s.heap.objs.size + 1 ->
   (∀ c o, c ≠ z -> c ≠ TO -> c ≠ i1 -> c ≠ i2 -> s.heap.get? c = some o -> h'.get? c = some o) -> Q (.ref s.heap.objs.size) { s with heap := h' }) :
  wpAny (model prog w) A (Builtin.«zip.__next__» ⟨[.ref z], []⟩) (fun fin s' => ∃ v, fin = .done (.ret v) /\ Q v s') E s := by
 show wpAny _ _ (field (.ref z) 2 >>= _) _ _ _
 refine wpAny_bind (wpAny_field hz rfl (x := .bool false) rfl ?_)
 show wpAny _ _ (field (.ref z) 3 >>= _) _ _ _
 refine wpAny_bind (wpAny_field hz rfl (x := .ref TI) rfl ?_)
 refine wpAny_bind (wpAny_seqItems hTI rfl ?_)
 show wpAny _ _ (Builtin.SmallTypes.ownedTupleIsFree (.ref z) >>= _) _ _ _
 refine wpAny_bind ?_
 unfold Builtin.SmallTypes.ownedTupleIsFree
 refine wpAny_bind (wpAny_field hz rfl (x := .none) rfl (wpAny_pure ?_))
 simp only [if_true]
 refine wpAny_bind (wpAny_rule ?_)
 refine wpAny_bind (wpAny_field hz rfl (x := .ref TO) rfl ?_)
 refine wpAny_bind (wpAny_setField_rec hz (by simp) fun ha hza hsa => ?_)
 replace hza : IsZip ha z TI TO .ellipsis := hza
 refine wpAny_bind ?_
 simp only [List.zipIdx_cons, List.zipIdx_nil, List.forIn_cons, List.forIn_nil]
 refine wpAny_bind (wpAny_bind (wpAny_onRaise ?_))
 show wpAny _ _ (Builtin.SmallTypes.nextOf (.ref i1) >>= _) _ _ _
 refine wpAny_bind (Zmp (h1.extBut hsa.extBut D.i1z) (hl1.extBut hsa.extBut D.l1z) hx fun hb h1b hsb => wpAny_pure ?_)
 have tb : IsPair hb TO a b := hsb.extBut _ _ D.TOi1 (hsa.extBut _ _ D.TOz hTO)
 refine wpAny_bind (wpAny_seqItems tb rfl ?_)
 refine wpAny_bind (wpAny_updateSeq_pair tb fun hc tc hsc => ?_)
 replace tc : IsPair hc TO x b := tc
 refine wpAny_bind (wpAny_letGo (wpAny_pure ?_))
 refine wpAny_bind (wpAny_bind (wpAny_onRaise ?_))
 show wpAny _ _ (Builtin.SmallTypes.nextOf (.ref i2) >>= _) _ _ _
 refine wpAny_bind (Zmp (((h2.extBut hsa.extBut D.i2z).extBut hsb.extBut D.i12.symm).extBut hsc.extBut D.TOi2.symm) (((hl2.extBut hsa.extBut D.l2z).extBut hsb.extBut D.l2i1).extBut hsc.extBut D.l2TO) hy fun hd h2d hsd => wpAny_pure ?_)
 have td : IsPair hd TO x b := hsd.extBut _ _ D.TOi2 tc
 refine wpAny_bind (wpAny_seqItems td rfl ?_)
 refine wpAny_bind (wpAny_updateSeq_pair td fun he te hse => ?_)
 replace te : IsPair he TO x y := te
 refine wpAny_bind (wpAny_letGo (wpAny_pure (wpAny_pure ?_)))
 refine wpAny_bind (wpAny_seqItems te rfl ?_)
 refine wpAny_bind (wpAny_newTuple ?_)
 have hsz : he.objs.size = s.heap.objs.size := by rw [hse.1, hsd.1, hsc.1, hsb.1, hsa.1]
 have ze : IsZip he z TI TO .ellipsis := hse.extBut _ _ D.TOz.symm (hsd.extBut _ _ D.i2z.symm (hsc.extBut _ _ D.TOz.symm (hsb.extBut _ _ D.i1z.symm hza)))
 have ke : ∀ c o, c ≠ z -> c ≠ TO -> c ≠ i1 -> c ≠ i2 -> s.heap.get? c = some o -> he.get? c = some o := fun c o c1 c2 c3 c4 e =>
  hse.extBut _ _ c2 (hsd.extBut _ _ c4 (hsc.extBut _ _ c2 (hsb.extBut _ _ c3 (hsa.extBut _ _ c1 e))))
 have h1e : he.IsTupleIter i1 l1 (k1 + 1) := ((h1b.extBut hsc.extBut D.TOi1.symm).extBut hsd.extBut D.i12).extBut hse.extBut D.TOi1.symm
 have h2e : he.IsTupleIter i2 l2 (k2 + 1) := h2d.extBut hse.extBut D.TOi2.symm
 have hzlt : z < he.objs.size := Heap.lt_size ze
 show wpAny _ _ (Builtin.SmallTypes.ownedTupleHandOut (.ref z) (.ref he.objs.size) >>= _) _ _ _
 refine wpAny_bind ?_
 unfold Builtin.SmallTypes.ownedTupleHandOut
 have zf : IsZip (he.push { cls := .type "tuple", data := .seq #[x, y] }) z TI TO .ellipsis := Heap.get?_push_of_some _ ze
 refine wpAny_bind (wpAny_setField_rec zf (by simp) fun hg zg hsg => ?_)
 replace zg : IsZip hg z TI TO (rawInt he.objs.size) := zg
 refine wpAny_setField_rec zg (by simp) fun hi zi hsi => ?_
 replace zi : IsZip hi z TI TO (rawInt he.objs.size) := zi
 have up : ∀ c o, c ≠ z -> he.get? c = some o -> hi.get? c = some o := fun c o c1 e => hsi.extBut _ _ c1 (hsg.extBut _ _ c1 (Heap.get?_push_of_some _ e))
 have hT : IsPair hi he.objs.size x y := hsi.extBut _ _ (Nat.ne_of_gt hzlt) (hsg.extBut _ _ (Nat.ne_of_gt hzlt) (Heap.get?_push_size _ rfl))
 have hz8 : hi.objs.size = he.objs.size + 1 := by rw [hsi.1, hsg.1, Heap.size_push]
 rw [hsz] at zi hT hz8
 refine wpAny_pure ⟨_, rfl, ?_⟩
 show Q (.ref he.objs.size) _
 rw [hsz]
 exact hQ hi zi (up _ _ D.TOz te) (tupIter_at h1e fun o e => up _ o D.i1z e) (tupIter_at h2e fun o e => up _ o D.i2z e) hT hz8 fun c o c1 c2 c3 c4 e => up c o c1 (ke c o c1 c2 c3 c4 e)
theorem ZjO {z TI TO i1 i2 l1 l2 : Addr} {k1 k2 : Nat} {xs ys : Array Value} {a b : Value} {Q : Fin -> Shared -> Prop} (hh : A.handled = none) (D : ZipApart z TI TO i1 i2 l1 l2)
    (hz : IsZip s.heap z TI TO .none) (hTI : IsPair s.heap TI (.ref i1) (.ref i2)) (hTO : IsPair s.heap TO a b)
    (h1 : s.heap.IsTupleIter i1 l1 k1) (h2 : s.heap.IsTupleIter i2 l2 k2) (hl1 : s.heap.IsTuple l1 xs) (hl2 : s.heap.IsTuple l2 ys) (hend : xs[k1]? = none \/ ys[k2]? = none)
    (hE : ∀ h' e, (∀ c o, c ≠ z -> c ≠ TO -> c ≠ i1 -> c ≠ i2 -> s.heap.get? c = some o -> h'.get? c = some o) -> (∃ o, h'.get? e = some o /\ o.cls = .type "StopIteration") -> E (.ref e) { s with heap := h' }) :
    wpAny (model prog w) A (Builtin.«zip.__next__» ⟨[.ref z], []⟩) Q E s := by
  show wpAny _ _ (field (.ref z) 2 >>= _) _ _ _
  refine wpAny_bind (wpAny_field hz rfl (x := .bool false) rfl ?_)
  show wpAny _ _ (field (.ref z) 3 >>= _) _ _ _
  refine wpAny_bind (wpAny_field hz rfl (x := .ref TI) rfl ?_)
  refine wpAny_bind (wpAny_seqItems hTI rfl ?_)
  show wpAny _ _ (Builtin.SmallTypes.ownedTupleIsFree (.ref z) >>= _) _ _ _
  refine wpAny_bind ?_
  unfold Builtin.SmallTypes.ownedTupleIsFree
  refine wpAny_bind (wpAny_field hz rfl (x := .none) rfl (wpAny_pure ?_))
  simp only [if_true]
  refine wpAny_bind (wpAny_rule ?_)
  refine wpAny_bind (wpAny_field hz rfl (x := .ref TO) rfl ?_)
  refine wpAny_bind (wpAny_setField_rec hz (by simp) fun ha hza hsa => ?_)
  replace hza : IsZip ha z TI TO .ellipsis := hza
  refine wpAny_bind ?_
  simp only [List.zipIdx_cons, List.zipIdx_nil, List.forIn_cons, List.forIn_nil]
  refine wpAny_bind (wpAny_bind (wpAny_onRaise ?_))
  show wpAny _ _ (Builtin.SmallTypes.nextOf (.ref i1) >>= _) _ _ _
  cases hx : xs[k1]? with
  | none =>
    refine wpAny_bind (Zfx hh (h1.extBut hsa.extBut D.i1z) (hl1.extBut hsa.extBut D.l1z) hx fun hb e hsb he => ?_)
    obtain ⟨oe, hoe, hce⟩ := he
    have zb : IsZip hb z TI TO .ellipsis := hsb _ _ D.i1z.symm hza
    have hez : e ≠ z := fun x => by subst x; rw [zb] at hoe; cases hoe; simp at hce
    refine wpAny_setField_rec zb (by simp) fun hc _ hsc => hE hc e (fun c o c1 _ c3 _ x => hsc.extBut _ _ c1 (hsb _ _ c3 (hsa.extBut _ _ c1 x))) ⟨oe, hsc.extBut _ _ hez hoe, hce⟩
  | some x =>
    have hy : ys[k2]? = none := by rcases hend with h | h; rw [hx] at h; cases h; exact h
    refine wpAny_bind (Zmp (h1.extBut hsa.extBut D.i1z) (hl1.extBut hsa.extBut D.l1z) hx fun hb h1b hsb => wpAny_pure ?_)
    have tb : IsPair hb TO a b := hsb.extBut _ _ D.TOi1 (hsa.extBut _ _ D.TOz hTO)
    refine wpAny_bind (wpAny_seqItems tb rfl ?_)
    refine wpAny_bind (wpAny_updateSeq_pair tb fun hc tc hsc => ?_)
    refine wpAny_bind (wpAny_letGo (wpAny_pure ?_))
    refine wpAny_bind (wpAny_bind (wpAny_onRaise ?_))
    show wpAny _ _ (Builtin.SmallTypes.nextOf (.ref i2) >>= _) _ _ _
    refine wpAny_bind (Zfx hh (((h2.extBut hsa.extBut D.i2z).extBut hsb.extBut D.i12.symm).extBut hsc.extBut D.TOi2.symm) (((hl2.extBut hsa.extBut D.l2z).extBut hsb.extBut D.l2i1).extBut hsc.extBut D.l2TO) hy fun hd e hsd he => ?_)
    obtain ⟨oe, hoe, hce⟩ := he
    have zd : IsZip hd z TI TO .ellipsis := hsd _ _ D.i2z.symm (hsc.extBut _ _ D.TOz.symm (hsb.extBut _ _ D.i1z.symm hza))
    have hez : e ≠ z := fun x => by subst x; rw [zd] at hoe; cases hoe; simp at hce
    refine wpAny_setField_rec zd (by simp) fun he _ hse => hE he e (fun c o c1 c2 c3 c4 x => hse.extBut _ _ c1 (hsd _ _ c4 (hsc.extBut _ _ c2 (hsb.extBut _ _ c3 (hsa.extBut _ _ c1 x))))) ⟨oe, hse.extBut _ _ hez hoe, hce⟩
theorem next_zipT {z TI TO i1 i2 l1 l2 : Addr} {k1 k2 : Nat} {xs ys : Array Value} {x y a b : Value} {Q : Option Value -> Shared -> Prop} (D : ZipApart z TI TO i1 i2 l1 l2)
  (hz : IsZip s.heap z TI TO .none) (hTI : IsPair s.heap TI (.ref i1) (.ref i2)) (hTO : IsPair s.heap TO a b)
  (h1 : s.heap.IsTupleIter i1 l1 k1) (h2 : s.heap.IsTupleIter i2 l2 k2) (hl1 : s.heap.IsTuple l1 xs) (hl2 : s.heap.IsTuple l2 ys) (hx : xs[k1]? = some x) (hy : ys[k2]? = some y)
  (hQ : ∀ h', IsZip h' z TI TO (rawInt s.heap.objs.size) -> IsPair h' TO x y -> h'.IsTupleIter i1 l1 (k1 + 1) -> h'.IsTupleIter i2 l2 (k2 + 1) -> IsPair h' s.heap.objs.size x y -> h'.objs.size = s.heap.objs.size + 1 ->
   (∀ c o, c ≠ z -> c ≠ TO -> c ≠ i1 -> c ≠ i2 -> s.heap.get? c = some o -> h'.get? c = some o) -> Q (some (.ref s.heap.objs.size)) { s with heap := h' }) :
  wpAny (model prog w) A (pyNext (.ref z)) Q E s := by
 have hT : s.TypeIs (.ref z) "zip" := ⟨_, hz, rfl⟩
 unfold pyNext
 exact wpAny_bind (wpAny_attempt (wpAny_callSpecial?_slot (name := Str.ofString "__next__") hT F.slot_zip_next (wpAny_call_entry F.slot_zip_next hT F.entry_zip_next
   (ZhQ D hz hTI hTO h1 h2 hl1 hl2 hx hy fun h' a1 a2 a3 a4 a5 a6 a7 => wpAny_pure (hQ h' a1 a2 a3 a4 a5 a6 a7)) (F.args_zip_next_1 _))))
theorem next_zipT_end {z TI TO i1 i2 l1 l2 : Addr} {k1 k2 : Nat} {xs ys : Array Value} {a b : Value} {Q : Option Value -> Shared -> Prop} (hh : A.handled = none) (D : ZipApart z TI TO i1 i2 l1 l2)
  (hz : IsZip s.heap z TI TO .none) (hTI : IsPair s.heap TI (.ref i1) (.ref i2)) (hTO : IsPair s.heap TO a b)
  (h1 : s.heap.IsTupleIter i1 l1 k1) (h2 : s.heap.IsTupleIter i2 l2 k2) (hl1 : s.heap.IsTuple l1 xs) (hl2 : s.heap.IsTuple l2 ys) (hend : xs[k1]? = none \/ ys[k2]? = none)
  (hQ : ∀ h', (∀ c o, c ≠ z -> c ≠ TO -> c ≠ i1 -> c ≠ i2 -> s.heap.get? c = some o -> h'.get? c = some o) -> Q none { s with heap := h' }) : wpAny (model prog w) A (pyNext (.ref z)) Q E s := by
 have hT : s.TypeIs (.ref z) "zip" := ⟨_, hz, rfl⟩
 unfold pyNext
 refine wpAny_bind (wpAny_attempt (wpAny_callSpecial?_slot (name := Str.ofString "__next__") hT F.slot_zip_next (wpAny_call_entry F.slot_zip_next hT F.entry_zip_next (ZjO hh D hz hTI hTO h1 h2 hl1 hl2 hend fun h' e hk he => ?_) (F.args_zip_next_1 _))))
 obtain ⟨o, ho, hc⟩ := he
 refine wpAny_bind (wpAny_isInstance (T := "StopIteration") (b := true) ⟨o, ho, hc⟩ isSubtype_stop ?_)
 exact wpAny_pure (hQ _ hk)
end
noncomputable abbrev zT1 (h : Heap) (l1 : Addr) : Heap := h.push { cls := .type "tuple_iterator", data := .fields #[.ref l1, .int 0 0] }
noncomputable abbrev zT2 (h : Heap) (l1 l2 : Addr) : Heap := (zT1 h l1).push { cls := .type "tuple_iterator", data := .fields #[.ref l2, .int 0 0] }
noncomputable abbrev zT3 (h : Heap) (l1 l2 : Addr) : Heap := (zT2 h l1 l2).push { cls := .type "tuple", data := .seq #[.ref h.objs.size, .ref (zT1 h l1).objs.size] }
noncomputable abbrev zT4 (h : Heap) (l1 l2 : Addr) : Heap := (zT3 h l1 l2).push { cls := .type "tuple", data := .seq #[.none, .none] }
noncomputable abbrev zT5 (h : Heap) (l1 l2 : Addr) : Heap := (zT4 h l1 l2).push { cls := .type "zip", data := .fields #[.none, .bool false, .bool false, .ref (zT2 h l1 l2).objs.size, .ref (zT3 h l1 l2).objs.size] }
theorem ZjN (l1 l2 : Addr) (xs ys : Array Value) :
  Meets (Builtin.«zip.__new__» ⟨[.type "zip", .ref l1, .ref l2], []⟩) (fun _ R s => s.heap.IsTuple l1 xs /\ s.heap.IsTuple l2 ys /\ R (.ok (.ret (.ref (zT4 s.heap l1 l2).objs.size))) { s with heap := zT5 s.heap l1 l2 }) :=
 .of_wp fun prog w A R s h => by
  obtain ⟨hp, g, d, tk, os⟩ := s; obtain ⟨hl1, hl2, h⟩ := h
  have hsub : isSubtype (.type "zip") (.type "zip") = pure true := by rw [isSubtype_type]; kernel_rfl
  have hL1 : Heap.IsTuple (Shared.heap ⟨hp, g, d, tk, os⟩) l1 xs := hl1
  have hL2 : Heap.IsTuple (Shared.heap ⟨hp.push { cls := .type "tuple_iterator", data := .fields #[.ref l1, .int 0 0] }, g, d, tk, os⟩) l2 ys := Heap.IsTuple.push hl2 _
  wp_walk using wpAny_pyIter_tuple hL1, wpAny_pyIter_tuple hL2
  exact ⟨_, rfl, h⟩
theorem call_zipT {prog : Program} {w : World} {A : Around} {E : Value -> Shared -> Prop} {s : Shared} {l1 l2 : Addr} {xs ys : Array Value} {Q : Value -> Shared -> Prop} (hl1 : s.heap.IsTuple l1 xs) (hl2 : s.heap.IsTuple l2 ys)
  (h : ∀ h', IsZip h' (s.heap.objs.size + 4) (s.heap.objs.size + 2) (s.heap.objs.size + 3) .none -> IsPair h' (s.heap.objs.size + 2) (.ref s.heap.objs.size) (.ref (s.heap.objs.size + 1)) ->
   IsPair h' (s.heap.objs.size + 3) .none .none -> h'.IsTupleIter s.heap.objs.size l1 0 -> h'.IsTupleIter (s.heap.objs.size + 1) l2 0 ->
   (∀ c o, s.heap.get? c = some o -> h'.get? c = some o) -> Q (.ref (s.heap.objs.size + 4)) { s with heap := h' }) :
  wpAny (model prog w) A (call (.type "zip") [.ref l1, .ref l2]) Q E s := by
 refine callType_new F.called_zip (by decide) (F.typeCall_zip_2 _ _) (F.newCall_zip_2 _ _) (fun obj => F.args_object_init_3 obj _ _) F.entry_zip_new (ZjN l1 l2 xs ys) ⟨hl1, hl2, ?_⟩
 have z1 : (zT1 s.heap l1).objs.size = s.heap.objs.size + 1 := Heap.size_push ..
 have z2 : (zT2 s.heap l1 l2).objs.size = s.heap.objs.size + 2 := by rw [Heap.size_push, z1]
 have z3 : (zT3 s.heap l1 l2).objs.size = s.heap.objs.size + 3 := by rw [Heap.size_push, z2]
 have z4 : (zT4 s.heap l1 l2).objs.size = s.heap.objs.size + 4 := by rw [Heap.size_push, z3]
 have g5 : (zT5 s.heap l1 l2).get? (zT4 s.heap l1 l2).objs.size = some _ := Heap.get?_push_size _ rfl
 have g4 : (zT5 s.heap l1 l2).get? (zT3 s.heap l1 l2).objs.size = some _ := Heap.get?_push_of_some _ (Heap.get?_push_size _ rfl)
 have g3 : (zT5 s.heap l1 l2).get? (zT2 s.heap l1 l2).objs.size = some _ := Heap.get?_push_of_some _ (Heap.get?_push_of_some _ (Heap.get?_push_size _ rfl))
 have g2 : (zT5 s.heap l1 l2).get? (zT1 s.heap l1).objs.size = some _ := Heap.get?_push_of_some _ (Heap.get?_push_of_some _ (Heap.get?_push_of_some _ (Heap.get?_push_size _ rfl)))
 have g1 : (zT5 s.heap l1 l2).get? s.heap.objs.size = some _ := Heap.get?_push_of_some _ (Heap.get?_push_of_some _ (Heap.get?_push_of_some _ (Heap.get?_push_of_some _ (Heap.get?_push_size _ rfl))))
 show _ /\ _
 rw [z2, z3, z4] at g5
 rw [z1, z2] at g3
 rw [z3] at g4
 rw [z1] at g2
 rw [z4]
 exact ⟨⟨_, g5, rfl⟩, h _ g5 g3 g4 ⟨_, g1, rfl, rfl⟩ ⟨_, g2, rfl, rfl⟩ fun c o x => Heap.get?_push_of_some _ (Heap.get?_push_of_some _ (Heap.get?_push_of_some _ (Heap.get?_push_of_some _ (Heap.get?_push_of_some _ x))))⟩
end L3
end
section
namespace L2
open PySem PySem.Spec PyProof.Rows
noncomputable def ItzT (K : PySem.W.Frag) (l1 l2 : Addr) : It := ⟨fun i H => ∃ xs ys x y, SqT K H l1 xs /\ SqT K H l2 ys /\ xs[i]? = some x /\ ys[i]? = some y,
 fun i H v H' => ∃ T x y, (∀ xs, SqT K H l1 xs -> xs[i]? = some x) /\ (∀ ys, SqT K H l2 ys -> ys[i]? = some y) /\ H T = none /\ v = .ref T /\ H' = upd H T (.tup [x, y]),
 fun i H => ∃ xs ys, SqT K H l1 xs /\ SqT K H l2 ys /\ (xs.length <= i \/ ys.length <= i)⟩
theorem ZhY {P : Program} {w : World} {K : PySem.W.Frag} {elts : List Expr} {x1} {pos : Pos} {z TI TO i1 i2 l1 l2 : Addr} (D : ZipApart z TI TO i1 i2 l1 l2) :
  Turn P w K (.Tuple elts x1 pos) (ItzT K l1 l2) [z, TI, TO, i1, i2] z (fun i h => IsZip h z TI TO .none /\ IsPair h TI (.ref i1) (.ref i2) /\ (∃ a b, IsPair h TO a b) /\ h.IsTupleIter i1 l1 i /\ h.IsTupleIter i2 l2 i) where
 mem := by simp
 obj := fun i h st b hb => by
  obtain ⟨a1, a2, ⟨a, b', a3⟩, ⟨o1, e1, c1, d1⟩, ⟨o2, e2, c2, d2⟩⟩ := st
  simp only [List.mem_cons, List.not_mem_nil, or_false] at hb
  rcases hb with rfl | rfl | rfl | rfl | rfl
  ·exact ⟨_, a1, fun v z => by cases z⟩
  ·exact ⟨_, a2, fun v z => by cases z⟩
  ·exact ⟨_, a3, fun v z => by cases z⟩
  ·exact ⟨_, e1, fun v z => by rw [d1] at z; cases z⟩
  ·exact ⟨_, e2, fun v z => by rw [d2] at z; cases z⟩
 keep := fun i h h' st k => by
  obtain ⟨a1, a2, ⟨a, b', a3⟩, a4, a5⟩ := st
  exact ⟨k z (by simp) _ a1, k TI (by simp) _ a2, ⟨a, b', k TO (by simp) _ a3⟩, L3.tupIter_at a4 fun o e => k i1 (by simp) o e, L3.tupIter_at a5 fun o e => k i2 (by simp) o e⟩
 item := by
  intro X hP hw hK hc i pins s σ H E I hf st hg
  subst hP hw hK
  obtain ⟨xs, ys, x, y, hq1, hq2, hx, hy⟩ := hg
  obtain ⟨its1, rv1, p1, hz1⟩ := I.tuple hq1
  obtain ⟨its2, rv2, p2, hz2⟩ := I.tuple hq2
  obtain ⟨u1, hu1, ru1⟩ := rv1.get hx
  obtain ⟨u2, hu2, ru2⟩ := rv2.get hy
  obtain ⟨a1, a2, ⟨a, b', a3⟩, a4, a5⟩ := st
  refine L3.next_zipT D a1 a2 a3 a4 a5 p1 p2 (x := u1) (y := u2) (by simpa using hu1) (by simpa using hu2) fun h' b1 b2 b3 b4 b5 b6 b7 => ?_
  refine ⟨_, rfl, wpAny_letOwnedTupleGo_zip (s := { s with heap := h' }) b1 fun h2 c1 c2 => ?_⟩
  have hT : H s.heap.objs.size = none := I.hok.fresh (Nat.le_refl _)
  have I1 : Inv X pins σ (upd H s.heap.objs.size (.tup [x, y])) { s with heap := s.heap.push { cls := .type "tuple", data := .seq #[u1, u2] }, toks := s.toks } :=
   I.laid (t' := s.toks) (fun b u e => Heap.get?_push_of_some _ e) (Nat.le_refl _) ⟨by show 2 <= sizeLine; decide, [u1, u2], .cons ru1 (.cons ru2 .nil), ⟨_, Heap.get?_push_size _ rfl, rfl, _, rfl⟩⟩
  have lt : ∀ {c o}, s.heap.get? c = some o -> c ≠ s.heap.objs.size := fun e => Nat.ne_of_lt (Heap.lt_size e)
  have ne : ∀ b ∈ [z, TI, TO, i1, i2], b ≠ s.heap.objs.size := fun b hb => by
   obtain ⟨o1, e1, _⟩ := a4
   obtain ⟨o2, e2, _⟩ := a5
   simp only [List.mem_cons, List.not_mem_nil, or_false] at hb
   rcases hb with rfl | rfl | rfl | rfl | rfl
   ·exact lt a1
   ·exact lt a2
   ·exact lt a3
   ·exact lt e1
   ·exact lt e2
  have f1 : ∀ b ∈ [z, TI, TO, i1, i2], upd H s.heap.objs.size (.tup [x, y]) b = none := fun b hb => by rw [ZaH (ne b hb)]; exact (hf b hb).1
  have hTz : s.heap.objs.size ≠ z := (ne z (by simp)).symm
  have I2 := I1.turnedL (h' := h2) (t' := s.toks) (fp := [z, TI, TO, i1, i2]) (fun b o hb e => by
   simp only [List.mem_cons, List.not_mem_nil, or_false, not_or] at hb
   obtain ⟨n1, n2, n3, n4, n5⟩ := hb
   rcases ZkI rfl e with e | ⟨rfl, rfl⟩
   ·exact c2.extBut _ _ n1 (b7 b o n1 n3 n4 n5 e)
   ·exact c2.extBut _ _ hTz b5) fun b hb => ⟨f1 b hb, (hf b hb).2⟩
  refine ⟨.ref s.heap.objs.size, _, I2, rfl, ⟨_, x, y, fun xs' h => by rw [I.tuple_inj h hq1]; exact hx, fun ys' h => by rw [I.tuple_inj h hq2]; exact hy, hT, rfl, rfl⟩, ?_, f1⟩
  exact ⟨c1, c2.extBut _ _ D.TIz (b7 _ _ D.TIz D.TITO D.TIi1 D.TIi2 a2), ⟨_, _, c2.extBut _ _ D.TOz b2⟩, b3.extBut c2.extBut D.i1z, b4.extBut c2.extBut D.i2z⟩
 done := by
  intro X hP hw hK hc i pins s σ H E I hf st hg
  subst hP hw hK
  obtain ⟨xs, ys, hq1, hq2, hend⟩ := hg
  obtain ⟨its1, rv1, p1, hz1⟩ := I.tuple hq1
  obtain ⟨its2, rv2, p2, hz2⟩ := I.tuple hq2
  have hl1 := rv1.length
  have hl2 := rv2.length
  obtain ⟨a1, a2, ⟨a, b', a3⟩, a4, a5⟩ := st
  refine L3.next_zipT_end (I.ok.hd hc) D a1 a2 a3 a4 a5 p1 p2 (by simp; lia) fun h' hk => ⟨rfl, I.turnedL (t' := s.toks) (fp := [z, TI, TO, i1, i2]) (fun b o hb e => ?_) hf⟩
  simp only [List.mem_cons, List.not_mem_nil, or_false, not_or] at hb
  exact hk b o hb.1 hb.2.2.1 hb.2.2.2.1 hb.2.2.2.2 e
 self := fun _ _ _ _ _ st h => wpAny_pyIter_zip st.1 h
section
variable {X : Cx} {tg : Expr}
noncomputable def ZmE (K : PySem.W.Frag) (ta : TA) : TI := fun σ H R => ta σ H fun vs H1 => ∃ l1 l2, vs = [.ref l1, .ref l2] /\ (∃ xs, SqT K H1 l1 xs) /\ (∃ ys, SqT K H1 l2 ys) /\ R (ItzT K l1 l2) H1
theorem Zmg {a b : Expr} {ta : TA} {p pos pos' : Pos} {elts : List Expr} {x1} (hg : Gl X "zip") (hm : X.mg "zip" = none) (ha : PA X [a, b] ta) (hs : starEach [a, b] X.env = [(false, eval a X.env), (false, eval b X.env)] := by rfl) (hs2 : starEach [b] X.env = [(false, eval b X.env)] := by rfl) :
    PI X (.Tuple elts x1 pos') (.Call (.Name "zip" p) [a, b] [] pos) (ZmE X.K ta) := by
  intro pins s σ H R I h
  refine Call_ (Zfz I hg hm bt_zip (PyProof.Rows.callWith_type1 (thn (ha pos pins s σ H _ I h) fun us s1 ⟨vs, H1, I1, r1, q1⟩ => ?_) (by rw [hs, hs2]) (by rw [hs2]; rfl)))
  obtain ⟨l1, l2, e, ⟨xs, q1⟩, ⟨ys, q2⟩, q⟩ := q1
  subst e
  cases r1 with
  | cons r rr =>
    cases rr with
    | cons r' rr =>
      cases rr
      cases r
      cases r'
      obtain ⟨its1, rv1, p1, hz1⟩ := I1.tuple q1
      obtain ⟨its2, rv2, p2, hz2⟩ := I1.tuple q2
      have hl1 : l1 < s1.heap.objs.size := by obtain ⟨o, e, _⟩ := p1; exact Heap.lt_size e
      have hl2 : l2 < s1.heap.objs.size := by obtain ⟨o, e, _⟩ := p2; exact Heap.lt_size e
      refine L3.call_zipT p1 p2 fun h' a1 a2 a3 a4 a5 a7 => ?_
      have I2 : Inv X pins σ H1 { s1 with heap := h' } := I1.kept (t' := s1.toks) a7
      refine wpAny_pyIter_zip (s := { s1 with heap := h' }) a1 ?_
      refine ⟨s1.heap.objs.size + 4, [s1.heap.objs.size + 4, s1.heap.objs.size + 2, s1.heap.objs.size + 3, s1.heap.objs.size, s1.heap.objs.size + 1], _, _, H1, rfl, I2, ZhY (l1 := l1) (l2 := l2) ?_, ⟨a1, a2, ⟨_, _, a3⟩, a4, a5⟩, fun b hb => ?_, q⟩
      · exact ZhP _ l1 l2 hl1 hl2
      · have hb' : s1.heap.objs.size <= b := by
          simp only [List.mem_cons, List.not_mem_nil, or_false] at hb
          rcases hb with rfl | rfl | rfl | rfl | rfl
          · exact Nat.le_add_right _ _
          · exact Nat.le_add_right _ _
          · exact Nat.le_add_right _ _
          · exact Nat.le_refl _
          · exact Nat.le_add_right _ _
        exact I1.fpOk hb' (I1.hok.fresh hb')
end
theorem Zi6 {X : Cx} {K : PySem.W.Frag} {a b : Expr} {ta : TA} {p pos pos' : Pos} {elts : List Expr} {x1} (h : X.K = K) (hg : Gl X "zip") (hm : X.mg "zip" = none) (ha : PA X [a, b] ta) (hs : starEach [a, b] X.env = [(false, eval a X.env), (false, eval b X.env)] := by rfl) (hs2 : starEach [b] X.env = [(false, eval b X.env)] := by rfl) :
  PI X (.Tuple elts x1 pos') (.Call (.Name "zip" p) [a, b] [] pos) (ZmE K ta) := h ▸ Zmg hg hm ha hs hs2
noncomputable def izT (K : PySem.W.Frag) (R : It -> Hp -> Prop) (vs : List V) (H1 : Hp) : Prop := ∃ l1 l2, vs = [.ref l1, .ref l2] /\ (∃ xs, SqT K H1 l1 xs) /\ (∃ ys, SqT K H1 l2 ys) /\ R (ItzT K l1 l2) H1
theorem Zj9 {K : PySem.W.Frag} {σ : St} {H : Hp} {R : It -> Hp -> Prop} {ta : TA} (h : ta σ H (izT K R)) : ZmE K ta σ H R := h
theorem izT_of {K : PySem.W.Frag} {H : Hp} {R : It -> Hp -> Prop} {l1 l2 : Addr} {xs ys : List V} (h1 : SqT K H l1 xs) (h2 : SqT K H l2 ys) (q : R (ItzT K l1 l2) H) : izT K R [.ref l1, .ref l2] H := ⟨l1, l2, rfl, ⟨xs, h1⟩, ⟨ys, h2⟩, q⟩
theorem ZmN {K : PySem.W.Frag} {l1 l2 : Addr} {us vs : List V} {g : TG} {tt : TT} {te : TE} {Q : VK} {σ : St} {H : Hp} (hxy : us.length = vs.length) (hz : us.length <= sizeLine) (Pv : Nat -> List V -> St -> Hp -> Prop) (h0 : Pv 0 [] σ H)
  (hl : ∀ i ys σ H, i <= us.length -> Pv i ys σ H -> SqT K H l1 us /\ SqT K H l2 vs)
  (hs : ∀ i x y T ys σ H, us[i]? = some x -> vs[i]? = some y -> H T = none -> ys.length <= i -> ys.length < sizeLine -> Pv i ys σ H -> g (.ref T) σ (upd H T (.tup [x, y])) fun σ2 H3 => tt σ2 H3 fun ok H4 => if ok = true then te σ2 H4 fun y H5 => ys.length < sizeLine /\ CN Pv i (ys ++ [y]) σ2 H5 else CN Pv i ys σ2 H4)
  (hd : ∀ ys σ H, ys.length <= us.length -> Pv us.length ys σ H -> ∀ p, H p = none -> Q (.ref p) (upd H p (.lst ys))) :
  ∃ W : Nat -> Nat -> List V -> St -> Hp -> Prop, (∃ m, W 0 m [] σ H) /\ CW (ItzT K l1 l2) g tt te W Q := by
 refine Zjp us.length hz Pv h0 (fun i ys σ H hi p => ?_) (fun ys σ H p => ?_) (fun i x ys σ H H2 hi h1 h2 p y => ?_) hd
 ·obtain ⟨q1, q2⟩ := hl i ys σ H (Nat.le_of_lt hi) p
  exact ⟨us, vs, us[i], vs[i]'(hxy ▸ hi), q1, q2, by simp [hi], by simp [hxy ▸ hi]⟩
 ·obtain ⟨q1, q2⟩ := hl _ ys σ H (Nat.le_refl _) p
  exact ⟨us, vs, q1, q2, .inl (Nat.le_refl _)⟩
 ·obtain ⟨q1, q2⟩ := hl i ys σ H (Nat.le_of_lt hi) p
  obtain ⟨T, x, y, e1, e2, e3, rfl, rfl⟩ := y
  exact hs i x y T ys σ H (e1 us q1) (e2 vs q2) e3 h1 h2 p
end L2
end
section
namespace L2
open PySem PySem.Spec PyProof.Rows
section
variable {X : Cx} {pos : Pos}
end
end L2
end
section
namespace L2
open PySem PySem.Spec PyProof.Rows
section
variable {X : Cx} {pos : Pos} {es : List Expr} {te : TE} {t : TA}
theorem ZgY {l : List Expr} (ha : PE X (.List l pos) te) (hr : PA X es t) : PA X (.List l pos :: es) (Zcj te t) := Zcw ha hr rfl
theorem ZbS {l : List Expr} {k : Nat} (ha : PE X (.Tuple l k pos) te) (hr : PA X es t) : PA X (.Tuple l k pos :: es) (Zcj te t) := Zcw ha hr rfl
theorem Zbs {a b : Expr} {op : Operator} (ha : PE X (.BinOp a op b pos) te) (hr : PA X es t) : PA X (.BinOp a op b pos :: es) (Zcj te t) := Zcw ha hr rfl
theorem ZaB {f : Expr} {as : List Expr} {ks} (ha : PE X (.Call f as ks pos) te) (hr : PA X es t) : PA X (.Call f as ks pos :: es) (Zcj te t) := Zcw ha hr rfl
theorem Zcf {e : Expr} {gs} {sc} (ha : PE X (.ListComp e gs sc pos) te) (hr : PA X es t) : PA X (.ListComp e gs sc pos :: es) (Zcj te t) := Zcw ha hr rfl
theorem Zau {a b : Expr} (ha : PE X (.Subscript a b pos) te) (hr : PA X es t) : PA X (.Subscript a b pos :: es) (Zcj te t) := Zcw ha hr rfl
theorem Zaa {x : Str} (ha : PE X (.Name x pos) te) (hr : PA X es t) : PA X (.Name x pos :: es) (Zcj te t) := Zcw ha hr rfl
theorem Zah {c : Const} {k : Nat} (ha : PE X (.Constant c k pos) te) (hr : PA X es t) : PA X (.Constant c k pos :: es) (Zcj te t) := Zcw ha hr rfl
theorem ZdV {a : Expr} {op : UnaryOp} (ha : PE X (.UnaryOp op a pos) te) (hr : PA X es t) : PA X (.UnaryOp op a pos :: es) (Zcj te t) := Zcw ha hr rfl
theorem Zdp {l : List Expr} {p : Pos} {i : Nat} {x : Str} {pos' : Pos} (hN : X.N.Nodup) (hi : X.N[i]? = some x) (hx : Loc X.env.scope x) (he : PE X (.List l p) te) (hf : X.fn x = true \/ X.env.scope.names.lookup x = some .local := by first | exact .inl rfl | exact .inr rfl | assumption) : PS X (.Assign [.Name x pos'] (.List l p) pos) (tAsg te (ZdQ i)) := Zdb hN hi hx he rfl hf
theorem Zea {l : List Expr} {k : Nat} {p : Pos} {i : Nat} {x : Str} {pos' : Pos} (hN : X.N.Nodup) (hi : X.N[i]? = some x) (hx : Loc X.env.scope x) (he : PE X (.Tuple l k p) te) (hf : X.fn x = true \/ X.env.scope.names.lookup x = some .local := by first | exact .inl rfl | exact .inr rfl | assumption) : PS X (.Assign [.Name x pos'] (.Tuple l k p) pos) (tAsg te (ZdQ i)) := Zdb hN hi hx he rfl hf
theorem Zbr {a b : Expr} {op : Operator} {p : Pos} {i : Nat} {x : Str} {pos' : Pos} (hN : X.N.Nodup) (hi : X.N[i]? = some x) (hx : Loc X.env.scope x) (he : PE X (.BinOp a op b p) te) (hf : X.fn x = true \/ X.env.scope.names.lookup x = some .local := by first | exact .inl rfl | exact .inr rfl | assumption) : PS X (.Assign [.Name x pos'] (.BinOp a op b p) pos) (tAsg te (ZdQ i)) := Zdb hN hi hx he rfl hf
theorem Zcl {f : Expr} {as : List Expr} {ks} {p : Pos} {i : Nat} {x : Str} {pos' : Pos} (hN : X.N.Nodup) (hi : X.N[i]? = some x) (hx : Loc X.env.scope x) (he : PE X (.Call f as ks p) te) (hf : X.fn x = true \/ X.env.scope.names.lookup x = some .local := by first | exact .inl rfl | exact .inr rfl | assumption) : PS X (.Assign [.Name x pos'] (.Call f as ks p) pos) (tAsg te (ZdQ i)) := Zdb hN hi hx he rfl hf
theorem Zb7 {a b : Expr} {p : Pos} {i : Nat} {x : Str} {pos' : Pos} (hN : X.N.Nodup) (hi : X.N[i]? = some x) (hx : Loc X.env.scope x) (he : PE X (.Subscript a b p) te) (hf : X.fn x = true \/ X.env.scope.names.lookup x = some .local := by first | exact .inl rfl | exact .inr rfl | assumption) : PS X (.Assign [.Name x pos'] (.Subscript a b p) pos) (tAsg te (ZdQ i)) := Zdb hN hi hx he rfl hf
end
end L2
end
section
namespace HT
open PySem PySem.Spec PyProof.Rows L2
end HT
namespace L2
open PySem PySem.Spec PyProof.Rows
end L2
end
section
namespace L2
open PySem PySem.Spec PyProof.Rows
noncomputable def rEqE (K : PySem.W.Frag) : R2 := fun x y H Q => ∃ a b xs, x = .ref a /\ y = .ref b /\ SqL K H a xs /\ SqL K H b [] /\ Q (.bl (decide (xs = []))) H
theorem op_eqE {X : Cx} (hu : X.A.units + 64 < cLine) : OpR X (compareOp .Eq) (rEqE X.K) := by
 rintro pins s σ H x y v u Q I rx ry ⟨a, b, xs, rfl, rfl, ha, hb, q⟩
 by_cases hx : xs = []
 ·subst hx
  refine op_eqL hu pins s σ H _ _ v u Q I rx ry ⟨a, b, [], [], [], [], rfl, rfl, ha, hb, ZaE, ZaE, rfl, rfl, by simp [D.deps], ?_⟩
  rw [Zb4]
  simpa using q
 ·cases rx; cases ry
  obtain ⟨its, vx, ht, _⟩ := I.list ha
  obtain ⟨its', vy, ht', _⟩ := I.list hb
  have l1 := vx.length
  have l2 := vy.length
  have hl : its.length ≠ its'.length := by
   have : 0 < xs.length := List.length_pos_iff.mpr hx
   have l2 : 0 = its'.length := l2
   lia
  refine SeqAt.eq_list_lengthsAt ht.isList ht'.isList (by simpa using hl) (by lia) (ZaU I q ?_)
  simp [hx]
theorem k_eqE {X : Cx} {K : PySem.W.Frag} (h : X.K = K) (hu : X.A.units + 64 < cLine) : OpR X (compareOp .Eq) (rEqE K) := h ▸ op_eqE hu
theorem Zld {K : PySem.W.Frag} {H : Hp} {a b : Addr} {xs : List V} {Q : VK} (h1 : SqL K H a xs) (h2 : H b = some (.lst [])) (q : Q (.bl (decide (xs = []))) H) : rEqE K (.ref a) (.ref b) H Q := ⟨a, b, xs, rfl, rfl, h1, SqL.of h2, q⟩
end L2
end
section
namespace L2
open PySem PySem.Spec PyProof.Rows
noncomputable def ZiA (P : Program) (w : World) : List V -> Hp -> VK -> Prop := fun xs H Q => ∃ a ns, xs = [.ref a] /\ H a = some (Zf1 P w a ns) /\ (L3.dd ns).length < 64 /\ ∀ (ms : List Int) p, ms.Perm (L3.dd ns) -> ms.Pairwise (· <= ·) -> H p = none -> Q (.ref p) (upd H p (.lst (ms.map V.int)))
theorem Zj3 {P : Program} {w : World} {H : Hp} {a : Addr} {ns : List Int} {Q : VK} (h : H a = some (Zf1 P w a ns)) (hf : (L3.dd ns).length < 64) (q : ∀ (ms : List Int) p, ms.Perm (L3.dd ns) -> ms.Pairwise (· <= ·) -> H p = none -> Q (.ref p) (upd H p (.lst (ms.map V.int)))) : ZiA P w [.ref a] H Q := ⟨a, ns, rfl, h, hf, q⟩
section
variable {X : Cx}
theorem ZfJ (hc : X.calm = true) : ZbU X (.builtin "sorted") (ZiA X.prog X.w) := by
  intro pins s σ H xs us Q I r h
  obtain ⟨a, ns, rfl, ha, hfew, q⟩ := h
  obtain ⟨u, rfl, ru⟩ := Zev r
  cases ru
  obtain ⟨hS, _, _⟩ := (show ObjOk X.prog X.w H s.heap a (Zf1 X.prog X.w a ns) from I.hok a _ ha)
  obtain ⟨o, es, ep, t, B, en⟩ := hS
  refine Calls.call_function_entry (id kind_sorted) plain_sorted entry_sorted (args_sorted1 _) ?_
  unfold Builtin.«sorted»
  refine wpAny_bind (m := checkCount "sorted" 1 1 _) (wpAny_pure (id ?_))
  refine wpAny_bind (L3.collect_T (A := X.A.in1) (I.ok.hd hc) B fun h' tk d' acc keep hacc => ?_)
  obtain ⟨ks, hints, hks⟩ := L3.elems_T B en hacc
  have hkl := hks.length_eq
  have hal := hints.length
  have hroom : acc.toList.length <= sizeLine := by
    have := fits_of_scanBound B.few
    lia
  refine wpAny_bind (wpAny_newList (id ?_) hroom)
  have hD : (h'.push (seqObj "list" acc.toList.toArray 0)).get? h'.objs.size = some (seqObj "list" acc.toList.toArray 0) := Heap.get?_push_size _ rfl
  refine wpAny_bind (wpAny_holding (wpAny_call_entry slot_list_sort ⟨_, hD, rfl⟩ entry_list_sort (ZlE (z := { s with heap := h'.push (seqObj "list" acc.toList.toArray 0), toks := tk, drawn := d' }) hD hints hroom (fun h2 z' => ?_) fun out ms q1 q2 q3 => ⟨_, rfl, ?_⟩) (args_list_sort _)))
  · exact Zj1 hints.intKeys (by rw [pairsOf_size]; exact h2) (by rw [pairsOf_size]; lia)
  · refine wpAny_pure ⟨_, rfl, ?_⟩
    generalize hF : sortedHeap (h'.push (seqObj "list" acc.toList.toArray 0)) h'.objs.size acc.toList out = hf
    have keepF : ∀ b ob, s.heap.get? b = some ob -> hf.get? b = some ob := fun b ob e => by
      have e1 := keep b ob e
      have hlt := Heap.lt_size e1
      rw [<- hF, sortedHeap_old (Nat.ne_of_lt hlt) (by rw [size_push']; exact Nat.lt_succ_of_lt hlt)]
      exact Heap.get?_push_of_some _ e1
    have hne : ∀ b ob, s.heap.get? b = some ob -> b ≠ h'.objs.size := fun b ob e => Nat.ne_of_lt (Heap.lt_size (keep b ob e))
    have hH : H h'.objs.size = none := by
      cases e : H h'.objs.size with
      | none => rfl
      | some o =>
        obtain ⟨o', e'⟩ := (I.hok _ o e).there
        exact absurd rfl (hne _ o' e')
    obtain ⟨ep2, hat2⟩ := sortedHeap_at (out := out) hD
    rw [hF] at hat2
    have hml : ms.length = ks.length := q2.length_eq
    have u := Un.track' (fs := frs X.stack) (ex := []) (o := .lst (ms.map V.int)) (Un.kept keepF) hne hH
    have ok := HOk.track (o := .lst (ms.map V.int)) (I.hok.kept keepF) hH ⟨by rw [List.length_map]; lia, out.toList, ep2, ZdC q1, by simpa using hat2⟩
    refine ⟨.ref h'.objs.size, upd H h'.objs.size (.lst (ms.map V.int)), ?_, rfl, q ms _ (q2.trans hks) q3 hH⟩
    exact I.call' (s' := { s with heap := hf, toks := tk, drawn := d' }) (ch := []) rfl u ok I.bare (fun b hb => nomatch hb)
theorem Zmx {P : Program} {w : World} (h1 : X.prog = P) (h2 : X.w = w) (hc : X.calm = true) : ZbU X (.builtin "sorted") (ZiA P w) := h1 ▸ h2 ▸ ZfJ hc
end
end L2
end
section
open PySem L2
local macro_rules | `(tactic| walk_at "rd1") => `(tactic| (first | ((with_reducible refine' ZlT ?e ?_); (case e => exact rfl)) | ((with_reducible refine' ZlS ?e ?f ?_); (case e => exact rfl); (case f => exact rfl)) | ((with_reducible refine' rd_opV ?e ?_); (case e => exact rfl)) | with_reducible refine rd_opC ?_ | ((with_reducible refine' Ziv ?e ?_); (case e => exact rfl)) | with_reducible refine Ziw ?_ | ((with_reducible refine' Zke ?e ?_); (case e => exact rfl)) | with_reducible refine Zkf ?_ | ((with_reducible refine ZlO ?_); intro D1) | ((with_reducible refine ZlN ?_); intro D1) | with_reducible refine rd_ifT ?_ | ((with_reducible refine' ZlP ?e ?_); (case e => exact rfl)) | (with_reducible first | refine ZlQ ?_ | refine Zl4 ?_ | refine ZlW ?_ | refine Zl3 ?_ | refine ZlV ?_) | ((with_reducible refine' rd_var ?e ?_); (case e => exact rfl)) | (with_reducible first | refine rd_c ?_ | refine rd_op ?_ | refine rd_un ?_) | ((with_reducible refine ZlM ?_); intro D1) | with_reducible refine Zix ?_ | ((with_reducible refine Ziu ?_); intro σ1) | (with_reducible first | refine Zk8 ?_ | refine Zl5 ?_ | refine Zf5 ?_ | refine rd_if ?_ | refine ZlJ ?_ | refine rd_tb ?_ | refine rd_and ?_ | refine rd_or ?_ | refine rd_not ?_ | refine ZlI ?_ | refine Zl9 ?_ | refine rd_orV ?_ | refine ZlU ?_ | refine rd_ifE ?_ | refine Zkg ?_ | refine rd_nil ?_ | refine Zl7 ?_ | refine rd_cb ?_) | ((with_reducible refine Zkj ?_); intro Q1) | (with_reducible first | refine Zma ?_ | refine rd_U ?_ | refine Zlc ?_ | refine Zla ?_ | refine Zlb ?_ | refine Zk9 ?_ | refine rd_eqB ?_ | refine rd_neB ?_ | refine ZbG ?_ | refine rd_int ?_ | refine rd_tup ?_ | refine rd_lst ?_ | refine Zl1 ?_ | refine Zj4 ?_ | refine Ziq ?_ | refine ZlR ?_ | refine rd_bm ?_ | refine rd_bm0 ?_ | refine Zl8 ?_ | refine ZlX ?_ | refine Zka ?_ | refine ZlY ?_ | refine Zkb ?_ | refine Zl2 ?_ | refine rd_for ?_ | refine rd_abs ?_ | refine rd_max ?_ | refine rd_min ?_ | refine rd_intB ?_ | refine rd_dput ?_ | refine Zkd ?_ | refine Zl6 ?_ | refine rd_fld ?_ | refine rd_sfld ?_ | refine rd_meth ?_ | refine rd_make ?_ | refine rd_isN ?_ | refine rd_notN ?_ | refine rd_izip ?_ | refine Zj9 ?_ | refine rd_pcons ?_ | refine rd_pnil ?_ | refine rd_dget1 ?_ | refine Zkh ?_ | refine Zip ?_ | refine Zgk ?_ | refine iteNF ?_ | refine iteF ?_ | refine iteT ?_)))
local macro_rules | `(tactic| walk_at "rd") => `(tactic| (repeat walk_at "rd1"))
local macro_rules | `(tactic| walk_at "mk") => `(tactic| refine ⟨Zdv rfl, ?_⟩)
section
namespace My
open PySem L2
noncomputable def top (i : Nat) : Stmt := PySem.Challenge.pw_midlanes_k17_whole_formed_goes_on.main.body.getD i (.Pass ⟨0, 0, 0, 0⟩)
noncomputable abbrev ZbL : Stmt := top 1
noncomputable abbrev ZcE : Stmt := top 9
noncomputable abbrev Zcd : Stmt := top 10
noncomputable abbrev Zby : Stmt := top 11
noncomputable abbrev ZbI : Stmt := top 12
noncomputable abbrev ZbJ : Stmt := top 13
noncomputable abbrev Zbn : Stmt := top 14
noncomputable abbrev ZcD : Stmt := top 21
noncomputable abbrev Zbv : Stmt := top 22
noncomputable abbrev Zbu : Stmt := top 23
noncomputable abbrev Zbj : Stmt := top 24
noncomputable abbrev ZdL : Stmt := top 25
noncomputable abbrev Zbw : Stmt := top 26
noncomputable abbrev ZbK : Stmt := top 27
noncomputable abbrev Zbx : Stmt := top 28
noncomputable abbrev Zbi : Stmt := top 29
noncomputable abbrev ZbN : Stmt := top 31
noncomputable abbrev ZbC : Stmt := top 32
noncomputable abbrev Zbc : Stmt := top 33
noncomputable abbrev Za5 : Stmt := top 34
noncomputable abbrev ZbB : Stmt := top 35
noncomputable abbrev ZbM : Stmt := top 36
noncomputable abbrev Zbz : Stmt := top 37
noncomputable abbrev Zbk : Stmt := top 38
noncomputable abbrev Za4 : Stmt := top 39
noncomputable abbrev ZbA : Stmt := top 40
noncomputable abbrev Zbl : Stmt := top 41
noncomputable abbrev ZaT : Stmt := top 42
noncomputable abbrev ZaX : Stmt := top 43
noncomputable abbrev ZaR : Stmt := top 44
noncomputable abbrev ZaS : Stmt := top 45
noncomputable abbrev ZbD : Stmt := top 46
noncomputable abbrev Zbd : Stmt := top 47
noncomputable abbrev Zbb : Stmt := top 48
noncomputable abbrev ZeW : Stmt := top 49
structure Blt (mg : Str -> Option Value) : Prop where
 b_abs : mg "abs" = none
 b_all : mg "all" = none
 b_bool : mg "bool" = none
 b_int : mg "int" = none
 b_isinstance : mg "isinstance" = none
 b_len : mg "len" = none
 b_list : mg "list" = none
 b_max : mg "max" = none
 b_min : mg "min" = none
 b_range : mg "range" = none
 b_set : mg "set" = none
 b_sorted : mg "sorted" = none
 b_str : mg "str" = none
 b_tuple : mg "tuple" = none
 b_zip : mg "zip" = none
structure Glb (K : PySem.W.Frag) (w : World) (mg : Str -> Option Value) : Prop where
 c_FIGURES : ∃ t, mg "FIGURES" = some (.str "0123456789" t)
 c_MOST_BOXES : ∃ t, mg "MOST_BOXES" = some (.int 8 t)
 c_MOST_DEFS : ∃ t, mg "MOST_DEFS" = some (.int 6 t)
 c_MOST_FACTOR : ∃ t, mg "MOST_FACTOR" = some (.int 99 t)
 c_MOST_FIGURES : ∃ t, mg "MOST_FIGURES" = some (.int 60 t)
 c_MOST_ROWS : ∃ t, mg "MOST_ROWS" = some (.int 30 t)
 c_MOST_TAKES : ∃ t, mg "MOST_TAKES" = some (.int 4 t)
 c_PARTS : IsCD K w mg "PARTS" partsT
section
variable {P : Program} {w : World} {K : PySem.W.Frag} {mg : Str -> Option Value} {base : Heap}
noncomputable def Zb6 : Nat -> D -> Prop
 | _, .int _ => True
 | _ + 1, .tup ds => ds.length <= 1000 /\ ∀ d ∈ ds, ∃ n, d = .int n
 | _, _ => False
noncomputable def ZmO (bx rw df : Int) (k : Str) : Int := if k = "box" then bx else if k = "row" then rw else df
noncomputable def Zel (bx rw df : Int) (k : Str) (n : Int) : Bool := if k = "number" then true else if k = "factor" then decide (-99 <= n) && decide (n <= 99) else decide (0 <= n) && decide (n < ZmO bx rw df k)
noncomputable def Zet (bx rw df : Int) : D -> Bool
 | .int n => Zel bx rw df "box" n
 | _ => false
noncomputable def Zay (bx rw df : Int) (k : Str) : D -> Bool
 | .tup ds => decide (k = "boxes") && ds.all (Zet bx rw df)
 | .int n => !decide (k = "boxes") && Zel bx rw df k n
 | _ => false
noncomputable def ZfA : List Str := ["box", "number", "factor", "row", "def", "boxes"]
noncomputable def Zcx (bx rw df : Int) : List (Key × V) := [(.inr "box", .int bx), (.inr "row", .int rw), (.inr "def", .int df)]
theorem ZhC {bx rw df : Int} {k : Str} (h : k ∈ ZfA) (n1 : k ≠ "number") (n2 : k ≠ "factor") (n3 : k ≠ "boxes") : valV (Zcx bx rw df) (Sum.inr k : Key) = some (.int (ZmO bx rw df k)) := by
 simp only [ZfA, List.mem_cons, List.not_mem_nil, or_false] at h
 rcases h with rfl | rfl | rfl | rfl | rfl | rfl
 ·rfl
 ·exact absurd rfl n1
 ·exact absurd rfl n2
 ·with_unfolding_all rfl
 ·with_unfolding_all rfl
 ·exact absurd rfl n3
theorem ZmC : (isi "tuple" "int" && !isi "tuple" "bool") = false := by decide +kernel
theorem Zgl : (isi "int" "int" && !isi "int" "bool") = true := by decide +kernel
noncomputable def ZcU : Sp := sp1 fun x H Q => ∃ t, tyN H x = some t /\ Q (.bl (isi t "int" && !isi t "bool")) H
theorem sc_is_whole : FnScope ["thing"] ["thing"] (Zag ZbL) := ⟨rfl, rfl, rfl, by decide +kernel, rfl, by decide +kernel, by decide +kernel⟩
theorem ZhH (B : Blt mg) (T_is_whole : TopFn K mg "is_whole" ZbL ["thing"]) : Callee P w K mg base "is_whole" 1 ["thing"] ZcU := by
  refine T_is_whole.ok1 sc_is_whole fun f cdv A outer s H v1 Q E hr h => ?_
  have nd := sc_is_whole.nd
  obtain ⟨t, ht, k⟩ := h
  refine' ZaI [some v1] rfl ?hb ?hg
  case' hb => refine' Zaf ?bab
  case' bab => refine' Zan ?bac
  case' bac => refine' ZdM ?bad ?bae
  case bad => exact (Zai ZaQ (by rfl) B.b_isinstance Zaq (Zaa (pv 0) (Zaa (Za7 (v := .ty "int") (by rfl) B.b_int ZfQ rfl) Zad)))
  case' bae => refine' Zed ?baf
  case' baf => refine' Zlg ?bag
  case' bag => refine' Zai ?bah ?bai ?baj ?bak ?bal
  case bah => exact ZaQ
  case bai => exact (by rfl)
  case baj => exact B.b_isinstance
  case bak => exact Zaq
  case bal => exact (Zaa (pv 0) (Zaa (Za7 (v := .ty "bool") (by rfl) B.b_bool Zes rfl) Zad))
  walk_at "rd"
  refine ZaZ ht (by simp) ⟨_, rfl, ?_⟩
  cases e : isi t "int" with
  | false =>
    rw [e] at k
    exact iteF k
  | true =>
    rw [e] at k
    refine iteT ?_
    walk_at "rd"
    refine ZaZ ht (by simp) ⟨_, rfl, ?_⟩
    simpa using k
noncomputable def ZgL (n : Nat) : Sp := sp3 fun x y c H Q => ∃ m d k a bx rw df, n = m + 1 /\ Rep H d x /\ Zb6 m d /\ y = .str k /\ k ∈ ZfA /\ c = .ref a /\ H a = some (.dK (Zcx bx rw df)) /\ ∀ H', Same H H' -> Q (.bl (Zay bx rw df k d)) H'
theorem sc_part_fits : FnScope ["part", "kind", "counts"] ["part", "kind", "counts"] (Zag Zbn) := ⟨rfl, rfl, rfl, by decide +kernel, rfl, by decide +kernel, by decide +kernel⟩
theorem part_0 (T_part_fits : TopFn K mg "part_fits" Zbn ["part", "kind", "counts"]) : Callee P w K mg base "part_fits" 1 ["part", "kind", "counts"] (ZgL 0) :=
 T_part_fits.ok3 sc_part_fits fun f cdv A outer s H v1 v2 v3 Q E hr h => by
  obtain ⟨m, d, k, a, bx, rw, df, e, _⟩ := h
  cases e
theorem Zfs {n lev : Nat} (B : Blt mg) (G : Glb K w mg) (T_part_fits : TopFn K mg "part_fits" Zbn ["part", "kind", "counts"]) (Cis_whole : Callee P w K mg base "is_whole" 1 ["thing"] ZcU) (hlev : 1 <= lev) (Cpart_fits : Callee P w K mg base "part_fits" lev ["part", "kind", "counts"] (ZgL n)) : Callee P w K mg base "part_fits" (lev + 1) ["part", "kind", "counts"] (ZgL (n + 1)) := by
  refine T_part_fits.ok3 sc_part_fits fun f cdv A outer s H v1 v2 v3 Q E hr h => ?_
  have nd := sc_part_fits.nd
  have hu1 := Zjf hr
  obtain ⟨m, d, kd, a, bx, rw, df, e, rd, pd, rfl, hk, rfl, ha, k⟩ := h
  obtain rfl : n = m := by lia
  refine' ZaI [some v1, some (.str kd), some (.ref a)] rfl ?hb ?hg
  case' hb => refine' Zae ?bab ?bac
  case' bab => refine' ZaF ?bad ?bae ?baf
  case bad => exact (Zal Za1 (pv 1) Zaw (Zar _))
  case' bae => refine' Zaf ?bag
  case' bag => refine' Zan ?bah
  case' bah => refine' ZdM ?bai ?baj
  case' bai => refine' Zai ?bak ?bal ?bam ?ban ?bao
  case bak => exact ZaQ
  case bal => exact (by rfl)
  case bam => exact B.b_isinstance
  case ban => exact Zaq
  case bao => exact (Zaa (pv 0) (Zaa (Za7 (v := .ty "tuple") (by rfl) B.b_tuple ZbX rfl) Zad))
  case' baj => refine' Zed ?bap
  case' bap => refine' Zai ?baq ?bar ?bas ?bat ?bau
  case baq => exact (ZhA (K := K) rfl rfl)
  case bar => exact (by rfl)
  case bas => exact B.b_all
  case bat => exact ZeO
  case' bau => refine' Zcf ?bav ?baw
  case' bav => refine' ZbY (LN := ["q"]) (FN := ["counts"]) (fr := [2]) ?bax ?bay ?baz ?bba ?bbb ?bbc
  case bax => exact rfl
  case bay => exact (ZcZ (by rfl))
  case baz => exact (Zg6 (K := K) rfl (pv 0))
  case' bba => intro cl C fp pins s H
  case bba => exact (ZaG (i := 0) (show ((["q"] : List Str) ++ (["counts"] : List Str)).Nodup by decide +kernel) rfl (Or.inl rfl))
  case' bbb => intro cl C fp pins s H
  case bbb => exact ZbH
  case' bbc => intro cl C fp pins s H
  case bbc => exact (ZaK Cpart_fits (hr.mono (by first | decide | lia)) (by rfl) (Zaa (pv 0) (Zah Zaw (Zaa (pv 1) Zad))))
  case baw => exact Zad
  case baf => exact Zam
  case' bac => refine' Zae ?bbd ?bbe
  case bbd => exact (ZaF (Zb1 (Zbm (ZaK Cis_whole (hr.mono (by first | decide | lia)) (by rfl) (Zaa (pv 0) Zad)))) (Zaf (Zan Zb9)) Zam)
  case' bbe => refine' Zae ?bbf ?bbg
  case bbf => exact (ZaF (Zal Za1 (pv 1) Zaw (Zar _)) (Zaf (Zan Zb9)) Zam)
  case' bbg => refine' Zae ?bbh ?bbi
  case' bbh => refine' ZaF ?bbj ?bbk ?bbl
  case bbj => exact (Zal Za1 (pv 1) Zaw (Zar _))
  case bbk => exact (Zaf (Zan (Zdc Zdt Zdt (ZeZ Zc5 (ZcV (by rfl) G.c_MOST_FACTOR)) (pv 0) (ZcV (by rfl) G.c_MOST_FACTOR))))
  case bbl => exact Zam
  case bbi => exact (Zaf (Zan (Zdc Zdt ZiO Zab (pv 0) (ZiJ hu1 (pv 2) (pv 1) (fun _ _ => rfl)))))
  walk_at "rd"
  refine Zav (fun e => ?_) (fun nb => ?_)
  · subst e
    walk_at "rd"
    cases d with
    | non => simp [Zb6] at pd
    | bl _ => simp [Zb6] at pd
    | str _ => simp [Zb6] at pd
    | int n =>
      obtain rfl := ZaL rd
      refine ZaZ rfl (by simp) ⟨_, rfl, iteF ?_⟩
      simpa [Zay] using k H (Same.refl _)
    | tup ds =>
      cases n with
      | zero => simp [Zb6] at pd
      | succ n =>
        obtain ⟨hl, hd⟩ := pd
        obtain ⟨t, xs, rfl, ht, rx⟩ := Zaz rd
        have hlen := rx.length
        refine ZaZ (t := "tuple") (Zdm ht) (by simp) ⟨_, rfl, iteT ?_⟩
        walk_at "rd"
        refine ZmB rd fun t' xs' e' ht' rx' => ?_
        cases e'
        rw [ht] at ht'
        cases ht'
        refine Zlp (xs := xs) (Zax (by lia)) (fun i ys σ H1 => An3 (∃ x1, σ = [x1, some (.ref a)]) (Same H H1) (ys = ((ds.take i).map (Zet bx rw df)).map V.bl)) ⟨⟨none, rfl⟩, Same.refl _, rfl⟩ (fun i ys σ H1 _ z_ => by obtain ⟨_, s1, _⟩ := z_; exact SqT.of (s1 _ _ ht)) ?_ ?_
        · rintro i x ys σ H1 hx hle hlt ⟨⟨x1, rfl⟩, s1, rfl⟩
          obtain ⟨d, ed, rd'⟩ := rx.get' hx
          obtain ⟨q, rfl⟩ := hd d (List.mem_of_getElem? ed)
          obtain rfl := ZaL rd'
          walk_at "rd"
          refine use3 ⟨n, .int q, "box", a, bx, rw, df, rfl, Zbq, by cases n <;> simp [Zb6], rfl, by decide +kernel, rfl, s1 _ _ ha, fun H2 s2 => ?_⟩
          refine ⟨hlt, by simpa using hle, ⟨_, rfl⟩, s1.trans s2, ?_⟩
          rw [List.take_add_one, ed]
          have nb : ¬ ("box" : Str) = "boxes" := by decide +kernel
          simp [Zay, Zet, nb]
        · rintro ys σ H1 hyl ⟨⟨x1, rfl⟩, s1, rfl⟩ pa hpa
          rw [<- hlen, List.take_length]
          walk_at "rd"
          refine ⟨pa, ds.map (Zet bx rw df), rfl, SqL.of Zac, ?_⟩
          have := k _ (s1.trans (Same.new (o := .lst ((ds.map (Zet bx rw df)).map V.bl)) hpa))
          simpa [Zay] using this
  · walk_at "rd"
    cases d with
    | non => simp [Zb6] at pd
    | bl _ => simp [Zb6] at pd
    | str _ => simp [Zb6] at pd
    | tup ds =>
      obtain ⟨t, xs, rfl, ht, rx⟩ := Zaz rd
      refine use1 ⟨"tuple", Zdm ht, ?_⟩
      rw [ZmC]
      walk_at "rd"
      have := k H (Same.refl _)
      simpa [Zay, nb] using this
    | int i =>
      obtain rfl := ZaL rd
      refine use1 ⟨"int", rfl, ?_⟩
      rw [Zgl]
      walk_at "rd"
      have k := k H (Same.refl _)
      simp only [Zay, Zel, nb, decide_false, Bool.not_false, Bool.true_and] at k
      refine Zav (fun e => ?_) (fun n1 => ?_)
      · walk_at "rd"
        rw [if_pos e] at k
        exact k
      · rw [if_neg n1] at k
        walk_at "rd"
        refine Zav (fun e => ?_) (fun n2 => ?_)
        · rw [if_pos e] at k
          walk_at "rd"
          refine Zav (fun h1 => ?_) (fun h1 => ?_)
          · walk_at "rd"
            simpa [h1] using k
          · simpa [h1] using k
        · rw [if_neg n2] at k
          walk_at "rd"
          refine Zav (fun h1 => ?_) (fun h1 => ?_)
          · walk_at "rd"
            refine ⟨a, _, rfl, .inl ⟨_, Sum.inr kd, .inl ha, rfl, (ZhC hk n1 n2 nb).symm⟩, ?_⟩
            walk_at "rd"
            simpa [h1] using k
          · simpa [h1] using k
noncomputable def Zd2 (ds : List PDef) (g : Int) : Int := ((ds[g.toNat]?).map (·.1)).getD 0
noncomputable def Zd0 (ds : List PDef) (r : Str × List D) : Bool := match r.2 with
 | [_, .int g, .tup qs] => decide ((qs.length : Int) = Zd2 ds g)
 | _ => false
noncomputable def Zdl (bx rw df : Int) (ps : List D) (ks : List Str) : Bool := (ps.zip ks).all fun q => Zay bx rw df q.2 q.1
noncomputable def Za2 (bx rw : Int) (ds : List PDef) (r : Str × List D) : Bool := match partsT.lookup r.1 with
 | none => false
 | some ks => decide (r.2.length = ks.length) && Zdl bx rw ds.length r.2 ks && (!decide (r.1 = "call") || Zd0 ds r)
theorem Zgb {k : Str} {ks : List Str} (h : partsT.lookup k = some ks) : ∀ x ∈ ks, x ∈ ZfA := by
  have hm : (k, ks) ∈ partsT := by
    have : ∀ (l : List (Str × List Str)), l.lookup k = some ks -> (k, ks) ∈ l := by
      intro l
      induction l with
      | nil => intro h; cases h
      | cons q l ih =>
        intro h
        obtain ⟨a, b⟩ := q
        rw [List.lookup_cons] at h
        split at h
        · next e => cases h; rw [beq_iff_eq.mp e]; exact List.mem_cons_self
        · exact List.mem_cons_of_mem _ (ih h)
    exact this _ h
  have hk : ∀ q ∈ partsT, ∀ x ∈ q.2, x ∈ ZfA := by decide +kernel
  exact hk _ hm
theorem Zfr {k : Str} {ks : List Str} (h : partsT.lookup k = some ks) : ks.length <= 3 := by
  have hm : ∀ (l : List (Str × List Str)), l.lookup k = some ks -> (∀ q ∈ l, q.2.length <= 3) -> ks.length <= 3 := by
    intro l
    induction l with
    | nil => intro h; cases h
    | cons q l ih =>
      intro h hl
      obtain ⟨a, b⟩ := q
      rw [List.lookup_cons] at h
      split at h
      · cases h; exact hl _ List.mem_cons_self
      · exact ih h fun q hq => hl q (List.mem_cons_of_mem _ hq)
  exact hm _ h (by decide +kernel)
noncomputable def ZkD : List Str := ["box", "def", "boxes"]
theorem ZeD {ks : List Str} (lk : partsT.lookup (("call" : Str)) = some ks) : ks = ZkD := by
 have : partsT.lookup (("call" : Str)) = some ZkD := by decide +kernel
 rw [this] at lk
 exact (Option.some.inj lk).symm
inductive Pr_row_fits (x y c : V) (H : Hp) (Q : VK) : Prop
 | mk (p vs ds r a bx rw) (_ : x = .ref p) (_ : H p = some (.lst vs)) (_ : DefsAt [] H ds vs) (_ : Rep H (rowD r) y) (_ : ∀ d ∈ r.2, Zb6 1 d) (_ : r.2.length <= 1000) (_ : c = .ref a) (_ : H a = some (.dK (Zcx bx rw (ds.length : Int)))) (_ : ∀ H', Same H H' -> Q (.bl (Za2 bx rw ds r)) H') : Pr_row_fits x y c H Q
noncomputable def Zd5 : Sp := sp3 (Pr_row_fits)
theorem sc_row_fits : FnScope ["program", "row", "counts", "kinds"] ["program", "row", "counts"] (Zag ZbJ) := ⟨rfl, rfl, rfl, by decide +kernel, rfl, by decide +kernel, by decide +kernel⟩
theorem ZhF (B : Blt mg) (G : Glb K w mg) (T_row_fits : TopFn K mg "row_fits" ZbJ ["program", "row", "counts"]) (Cpart_fits : Callee P w K mg base "part_fits" 3 ["part", "kind", "counts"] (ZgL 2)) : Callee P w K mg base "row_fits" 4 ["program", "row", "counts"] Zd5 := by
  refine T_row_fits.ok3 sc_row_fits fun f cdv A outer s H v1 v2 v3 Q E hr h => ?_
  have nd := sc_row_fits.nd
  obtain ⟨p, vs, ds, r, a, bx, rw, rfl, hp, D0, rr, hpd, hl, rfl, ha, k⟩ := h
  obtain ⟨wd, ps⟩ := r
  refine' ZaI [some (.ref p), some v2, some (.ref a), none] rfl ?hb ?hg
  case' hb => refine' Zae ?bab ?bac
  case' bab => refine' ZaF ?bad ?bae ?baf
  case' bad => refine' Zb1 ?bag
  case' bag => refine' PW.pt ?bah
  case' bah => refine' Zb0 ?bai ?baj
  case' bai => refine' Zbm ?bak
  case' bak => refine' Zai ?bal ?bam ?ban ?bao ?bap
  case bal => exact ZaQ
  case bam => exact (by rfl)
  case ban => exact B.b_isinstance
  case bao => exact Zaq
  case bap => exact (Zaa (pv 1) (Zaa (Za7 (v := .ty "tuple") (by rfl) B.b_tuple ZbX rfl) Zad))
  case' baj => refine' Zb0 ?baq ?bar
  case baq => exact (Zal Zku (Zai (Zbt (K := K) rfl) (by rfl) B.b_len ZaW (Zaa (pv 1) Zad)) Zab (Zar _))
  case' bar => refine' Zb0 ?bas ?bat
  case' bas => refine' Zbm ?bau
  case' bau => refine' Zai ?bav ?baw ?bax ?bay ?baz
  case bav => exact ZaQ
  case baw => exact (by rfl)
  case bax => exact B.b_isinstance
  case bay => exact Zaq
  case baz => exact (Zau (Zao (k_ix (K := K) rfl) (pv 1) Zab (fun _ _ => rfl)) (Zaa (Za7 (v := .ty "str") (by rfl) B.b_str Zhh rfl) Zad))
  case' bat => refine' ZbV ?bba
  case' bba => refine' Zal ?bbb ?bbc ?bbd ?bbe
  case bbb => exact (Zml (K := K) (w := w) (tb := partsT) rfl rfl)
  case bbc => exact (Zao (k_ix (K := K) rfl) (pv 1) Zab (fun _ _ => rfl))
  case bbd => exact (Zkq (K := K) (w := w) (by rfl) G.c_PARTS)
  case bbe => exact (by with_unfolding_all rfl)
  case bae => exact (Zaf (Zan Zb9))
  case baf => exact Zam
  case' bac => refine' Zae ?bbf ?bbg
  case' bbf => refine' Zb7 (i := 3) ?bbh ?bbi ?bbj ?bbk
  case bbh => exact nd
  case bbi => exact rfl
  case bbj => exact (Or.inl rfl)
  case' bbk => refine' ZgW (K := K) (w := w) (tb := partsT) ?bbl ?bbm ?bbn ?bbo ?bbp
  case bbl => exact rfl
  case bbm => exact rfl
  case bbn => exact (Zkq (K := K) (w := w) (by rfl) G.c_PARTS)
  case bbo => exact (Zao (k_ix (K := K) rfl) (pv 1) Zab (fun _ _ => rfl))
  case bbp => exact (fun _ _ => rfl)
  case' bbg => refine' Zae ?bbq ?bbr
  case' bbq => refine' ZaF ?bbs ?bbt ?bbu
  case' bbs => refine' Zal ?bbv ?bbw ?bbx ?bby
  case bbv => exact Ze0
  case bbw => exact (Zai (Zbt (K := K) rfl) (by rfl) B.b_len ZaW (Zaa (pv 1) Zad))
  case bbx => exact (Zas Za8 (Zai (Zbt (K := K) rfl) (by rfl) B.b_len ZaW (Zaa (pv 3) Zad)) Zab)
  case bby => exact (Zar _)
  case bbt => exact (Zaf (Zan Zb9))
  case bbu => exact Zam
  case' bbr => refine' Zae ?bbz ?bca
  case' bbz => refine' ZaF ?bcb ?bcc ?bcd
  case' bcb => refine' Zb1 ?bce
  case' bce => refine' Zbm ?bcf
  case' bcf => refine' Zai ?bcg ?bch ?bci ?bcj ?bck
  case bcg => exact (ZhA (K := K) rfl rfl)
  case bch => exact (by rfl)
  case bci => exact B.b_all
  case bcj => exact ZeO
  case' bck => refine' Zcf ?bcl ?bcm
  case' bcl => refine' ZbY (LN := ["part", "kind"]) (FN := ["counts"]) (fr := [2]) ?bcn ?bco ?bcp ?bcq ?bcr ?bcs
  case bcn => exact rfl
  case bco => exact (ZcZ (by rfl))
  case bcp => exact (Zi6 (K := K) rfl (by rfl) B.b_zip (Zau (ZaC (Zmy (K := K) rfl) (pv 1) (ZaJ Zab) ZaM) (Zaa (pv 3) Zad)))
  case' bcq => intro cl C fp pins s H
  case' bcq => refine' ZcO (K := K) (n := 2) ?bct ?bcu ?bcv
  case bct => exact rfl
  case bcu => exact rfl
  case' bcv => refine' Zbf ?bcw ?bcx
  case bcw => exact (ZaG (i := 0) (show ((["part", "kind"] : List Str) ++ (["counts"] : List Str)).Nodup by decide +kernel) rfl (Or.inl rfl))
  case bcx => exact (Zbf (ZaG (i := 1) (show ((["part", "kind"] : List Str) ++ (["counts"] : List Str)).Nodup by decide +kernel) rfl (Or.inl rfl)) Zds)
  case' bcr => intro cl C fp pins s H
  case bcr => exact ZbH
  case' bcs => intro cl C fp pins s H
  case bcs => exact (ZaK Cpart_fits (hr.mono (by first | decide | lia)) (by rfl) (Zaa (pv 0) (Zaa (pv 1) (Zaa (pv 2) Zad))))
  case bcm => exact Zad
  case bcc => exact (Zaf (Zan Zb9))
  case bcd => exact Zam
  case' bca => refine' Zaf ?bcy
  case' bcy => refine' Zan ?bcz
  case' bcz => refine' pe_or ?bda ?bdb
  case bda => exact (Zcm Ze0 (Zao (k_ix (K := K) rfl) (pv 1) Zab (fun _ _ => rfl)) Zaw (Zar _))
  case' bdb => refine' Zed ?bdc
  case' bdc => refine' Zcm ?bdd ?bde ?bdf ?bdg
  case bdd => exact Za1
  case bde => exact (Zai (Zbt (K := K) rfl) (by rfl) B.b_len ZaW (Zau (Zao (k_ix (K := K) rfl) (pv 1) Zab (fun _ _ => rfl)) Zad))
  case' bdf => refine' Zao ?bdh ?bdi ?bdj ?bdk
  case bdh => exact (k_ix (K := K) rfl)
  case bdi => exact (Zao (k_ix (K := K) rfl) (pv 0) (Zao (k_ix (K := K) rfl) (pv 1) Zab (fun _ _ => rfl)) (fun _ _ => rfl))
  case bdj => exact Zab
  case bdk => exact (fun _ _ => rfl)
  case bdg => exact (Zar _)
  walk_at "rd"
  refine ZaZ (ZhX rr) (by simp) (ZbG (iteT ?_))
  walk_at "rd"
  refine Zf6 rr ?_
  walk_at "rd"
  refine ZeH (by simp) ?_
  walk_at "rd"
  refine ZcR (n := 0) rr rfl rfl fun u ru => ?_
  obtain rfl : u = .str wd := by rwa [Rep] at ru
  walk_at "rd"
  refine ZaZ rfl (by simp) (ZbG (iteT ?_))
  walk_at "rd"
  refine ZcR (n := 0) rr rfl rfl fun u ru => ?_
  obtain rfl : u = .str wd := by rwa [Rep] at ru
  refine Zki fun pc cd => Zl0 cd ?_
  cases lk : partsT.lookup wd with
  | none =>
    rw [Option.isSome_none]
    walk_at "rd"
    have := k H (Same.refl _)
    simpa [Za2, lk] using this
  | some ks =>
    rw [Option.isSome_some]
    walk_at "rd"
    refine Zki fun pc' cd' => ?_
    walk_at "rd"
    refine ZcR (n := 0) rr rfl rfl fun u ru => ?_
    obtain rfl : u = .str wd := by rwa [Rep] at ru
    refine Zlr cd' lk fun b hb => ?_
    have h3 := Zfr lk
    walk_at "rd"
    refine Zf6 rr ?_
    walk_at "rd"
    refine Zb3 (hb _) ?_
    walk_at "rd"
    refine ZdN (fun ne => ?_) (fun e => ?_)
    · walk_at "rd"
      have k := k H (Same.refl _)
      have ne : ¬ ps.length = ks.length := fun z => ne (by simp [z])
      simpa [Za2, lk, ne] using k
    · have el : ps.length = ks.length := by simp at e; lia
      obtain ⟨t, xs0, rfl, ht, rx0⟩ := Zaz (show Rep H (.tup (.str wd :: ps)) v2 from rr)
      obtain ⟨u, xs, rfl, _, rx⟩ := Zat rx0
      have hxl := rx.length
      walk_at "rd"
      refine Zf4 ht fun p1 hp1 => ?_
      have s1 := Same.new (o := .tup xs) hp1
      have h1 : upd H p1 (.tup xs) p1 = some (.tup xs) := Zac
      generalize upd H p1 (.tup xs) = H1 at s1 h1
      walk_at "rd"
      refine izT_of (SqT.of h1) (hb _) ?_
      refine ZmN (us := xs) (vs := ks.map V.str) (by simp; lia) (Zax (by lia)) (fun i ys σ Hy => An3 (∃ x1 x2, σ = [x1, x2, some (.ref a)]) (Same H1 Hy) (ys = (((ps.zip ks).take i).map fun q => Zay bx rw (ds.length : Int) q.2 q.1).map V.bl)) ⟨⟨none, none, rfl⟩, Same.refl _, rfl⟩ (fun i ys σ Hy _ z_ => by obtain ⟨_, s2, _⟩ := z_; exact ⟨SqT.of (s2 _ _ h1), hb _⟩) ?_ ?_
      · rintro i x y T ys σ Hy hx hy hT hle hlt ⟨⟨x1, x2, rfl⟩, s2, rfl⟩
        obtain ⟨d, ed, rd'⟩ := rx.get' hx
        rw [List.getElem?_map] at hy
        obtain ⟨kd, ek, rfl⟩ := Option.map_eq_some_iff.mp hy
        have sT := Same.new (o := .tup [x, V.str kd]) hT
        have eT : upd Hy T (.tup [x, V.str kd]) T = some (.tup [x, V.str kd]) := Zac
        generalize upd Hy T (.tup [x, V.str kd]) = Hz at sT eT
        refine Zdo eT rfl ?_
        walk_at "rd"
        refine use3 ⟨1, d, kd, a, bx, rw, _, rfl, rd'.mono ((s1.trans s2).trans sT).ts, hpd d (List.mem_of_getElem? ed), rfl, Zgb lk kd (List.mem_of_getElem? ek), rfl, sT _ _ (s2 _ _ (s1 _ _ ha)), fun H2 s3 => ?_⟩
        refine ⟨hlt, by simpa using hle, ⟨_, _, rfl⟩, (s2.trans sT).trans s3, ?_⟩
        have ez : (ps.zip ks)[i]? = some (d, kd) := by rw [List.getElem?_zip_eq_some]; exact ⟨ed, ek⟩
        rw [List.take_add_one, ez]
        simp
      · rintro ys σ Hy hyl ⟨⟨x1, x2, rfl⟩, s2, rfl⟩ pa hpa
        have etk : (ps.zip ks).take xs.length = ps.zip ks := List.take_of_length_le (by simp; lia)
        rw [etk]
        have s3 := Same.new (o := .lst (((ps.zip ks).map fun q => Zay bx rw (ds.length : Int) q.2 q.1).map V.bl)) hpa
        have e3 : upd Hy pa (.lst (((ps.zip ks).map fun q => Zay bx rw (ds.length : Int) q.2 q.1).map V.bl)) pa = some (.lst (((ps.zip ks).map fun q => Zay bx rw (ds.length : Int) q.2 q.1).map V.bl)) := Zac
        generalize upd Hy pa (.lst (((ps.zip ks).map fun q => Zay bx rw (ds.length : Int) q.2 q.1).map V.bl)) = H3 at s3 e3
        have s03 := ((s1.trans s2).trans s3)
        have k := k H3 s03
        walk_at "rd"
        refine ⟨pa, (ps.zip ks).map fun q => Zay bx rw (ds.length : Int) q.2 q.1, rfl, SqL.of e3, ?_⟩
        have ez : ((ps.zip ks).map fun q => Zay bx rw (ds.length : Int) q.2 q.1).all id = Zdl bx rw ds.length ps ks := by
          simp [Zdl, List.all_map]
        rw [ez]
        refine ⟨_, rfl, ?_⟩
        cases hz : Zdl bx rw ds.length ps ks with
        | false =>
          walk_at "rd"
          simpa [Za2, lk, el, hz] using k
        | true =>
          walk_at "rd"
          have rr3 : Rep H3 (.tup (.str wd :: ps)) (.ref t) := Rep.mono s03.ts rr
          refine ZcR (n := 0) rr3 rfl rfl fun u ru => ?_
          obtain rfl : u = .str wd := by rwa [Rep] at ru
          walk_at "rd"
          refine ZdN (fun nc => ?_) (fun ec => ?_)
          · simpa [Za2, lk, el, hz, nc] using k
          · subst ec
            obtain rfl := ZeD lk
            match ps, el, hz, hpd, rr3, k with
            | [d1, d2, d3], _, hz, hpd, rr3, k =>
              have hz0 := hz
              simp only [Zdl, ZkD, List.zip_cons_cons, List.zip_nil_right, List.all_cons, List.all_nil, Bool.and_true, Bool.and_eq_true] at hz
              obtain ⟨_, z2, z3⟩ := hz
              have nd' : ¬ ("def" : Str) = "boxes" := by decide +kernel
              have n1 : ¬ ("def" : Str) = "number" := by decide +kernel
              have n2 : ¬ ("def" : Str) = "factor" := by decide +kernel
              have n3 : ¬ ("def" : Str) = "box" := by decide +kernel
              have n4 : ¬ ("def" : Str) = "row" := by decide +kernel
              have hd2 : ∃ g : Int, d2 = .int g /\ 0 <= g /\ g < ds.length := by
                cases d2 with
                | int g => simp [Zay, Zel, ZmO, nd', n1, n2, n3, n4] at z2; exact ⟨g, rfl, z2.1, z2.2⟩
                | tup _ => simp [Zay, nd'] at z2
                | non => simp [Zay] at z2
                | bl _ => simp [Zay] at z2
                | str _ => simp [Zay] at z2
              have hd3 : ∃ qs, d3 = .tup qs := by
                cases d3 with
                | tup qs => exact ⟨qs, rfl⟩
                | int g => simp [Zay] at z3
                | non => simp [Zay] at z3
                | bl _ => simp [Zay] at z3
                | str _ => simp [Zay] at z3
              obtain ⟨g, rfl, g0, g1⟩ := hd2
              obtain ⟨qs, rfl⟩ := hd3
              walk_at "rd"
              refine ZcR (n := 3) rr3 rfl rfl fun u ru => ?_
              walk_at "rd"
              refine Zf6 ru ?_
              walk_at "rd"
              refine ZgS (n := 2) rr3 rfl rfl ?_
              walk_at "rd"
              have hdl := D0.length
              have hg : g.toNat < vs.length := by lia
              obtain ⟨dd, ed, DA⟩ := D0.get (i := g.toNat) (v := vs[g.toNat]) (List.getElem?_eq_getElem hg)
              refine Zaj (s03 _ _ hp) (ZaV (n := g.toNat) (by lia) (List.getElem?_eq_getElem hg)) ?_
              walk_at "rd"
              obtain ⟨at_, q, ys, ev, hat, _⟩ := DA
              rw [ev]
              refine Za6 (s03 _ _ hat) rfl ?_
              walk_at "rd"
              have et : Zd2 ds g = dd.1 := by simp [Zd2, ed]
              have ec : Za2 bx rw ds ("call", [d1, .int g, .tup qs]) = decide ((qs.length : Int) = dd.1) := by
                simp [Za2, lk, Zd0, et, ZkD]
                exact fun _ => hz0
              rw [ec] at k
              exact k
noncomputable def ZbT (ds : List PDef) (d : PDef) : Bool := (d.2.2.all (Za2 d.2.1 d.2.2.length ds)) && (match d.2.2.getLast? with | some r => decide (r.1 = "jump") || decide (r.1 = "back") | none => false)
structure PgD (ds : List PDef) : Prop where
 len : ds.length <= 1000
 rows : ∀ d ∈ ds, d.2.2.length <= 1000
 part : ∀ d ∈ ds, ∀ r ∈ d.2.2, r.2.length <= 1000 /\ ∀ p ∈ r.2, Zb6 1 p
theorem inJB {x : Str} : inV (.str x) [.str "jump", .str "back"] = (decide (x = "jump") || decide (x = "back")) := by
 simp only [inV, Zjk, List.any_cons, List.any_nil, Bool.or_false]
 rw [Bool.eq_iff_iff]
 simp
 constructor
 ·rintro (z | z)
  ·exact .inl z.symm
  ·exact .inr z.symm
 ·rintro (z | z)
  ·exact .inl z.symm
  ·exact .inr z.symm
inductive Pr_rows_fit (x y : V) (H : Hp) (Q : VK) : Prop
 | mk (p vs ds g d) (_ : x = .ref p) (_ : y = .int (g : Nat)) (_ : H p = some (.lst vs)) (_ : DefsAt [] H ds vs) (_ : PgD ds) (_ : ds[g]? = some d) (_ : d.2.2 ≠ []) (_ : ∀ H', Same H H' -> Q (.bl (ZbT ds d)) H') : Pr_rows_fit x y H Q
noncomputable def Zd4 : Sp := sp2 (Pr_rows_fit)
theorem sc_rows_fit : FnScope ["program", "f", "rows", "counts"] ["program", "f"] (Zag ZbI) := ⟨rfl, rfl, rfl, by decide +kernel, rfl, by decide +kernel, by decide +kernel⟩
theorem ZhE (B : Blt mg) (G : Glb K w mg) (T_rows_fit : TopFn K mg "rows_fit" ZbI ["program", "f"]) (Crow_fits : Callee P w K mg base "row_fits" 4 ["program", "row", "counts"] Zd5) : Callee P w K mg base "rows_fit" 5 ["program", "f"] Zd4 := by
  refine T_rows_fit.ok2 sc_rows_fit fun f cdv A outer s H v1 v2 Q E hr h => ?_
  have nd := sc_rows_fit.nd
  have hu1 := Zjf hr
  obtain ⟨p, vs, ds, g, d, rfl, rfl, hp, D0, PD, ed, hne, k⟩ := h
  refine' ZaI [some (.ref p), some (.int g), none, none] rfl ?hb ?hg
  case' hb => refine' Zae ?bab ?bac
  case bab => exact (Zb7 (i := 2) nd rfl (Or.inl rfl) (Zao (k_ix (K := K) rfl) (Zao (k_ix (K := K) rfl) (pv 0) (pv 1) (fun _ _ => rfl)) Zab (fun _ _ => rfl)))
  case' bac => refine' Zae ?bad ?bae
  case' bad => refine' Zdb (i := 3) ?baf ?bag ?bah ?bai
  case baf => exact nd
  case bag => exact rfl
  case bah => exact (Or.inr rfl)
  case' bai => refine' ZiI ?baj ?bak ?bal ?bam ?ban
  case' baj => refine' ZdU ?bao ?bap ?baq
  case bao => exact Zaw
  case bap => exact (Zao (k_ix (K := K) rfl) (Zao (k_ix (K := K) rfl) (pv 0) (pv 1) (fun _ _ => rfl)) Zab (fun _ _ => rfl))
  case' baq => refine' ZdU ?bar ?bas ?bat
  case bar => exact Zaw
  case bas => exact (Zai (Zbt (K := K) rfl) (by rfl) B.b_len ZaW (Zaa (pv 2) Zad))
  case bat => exact (ZdU Zaw (Zai (Zbt (K := K) rfl) (by rfl) B.b_len ZaW (Zaa (pv 0) Zad)) ZiE)
  case bak => exact rfl
  case bal => exact rfl
  case bam => exact (List.cons_ne_nil _ _)
  case ban => exact (Nat.le_of_ble_eq_true rfl)
  case' bae => refine' Zae ?bau ?bav
  case' bau => refine' ZaF ?baw ?bax ?bay
  case' baw => refine' Zb1 ?baz
  case' baz => refine' Zbm ?bba
  case' bba => refine' Zai ?bbb ?bbc ?bbd ?bbe ?bbf
  case bbb => exact (ZhA (K := K) rfl rfl)
  case bbc => exact (by rfl)
  case bbd => exact B.b_all
  case bbe => exact ZeO
  case' bbf => refine' Zcf ?bbg ?bbh
  case' bbg => refine' ZbY (LN := ["row"]) (FN := ["program", "counts"]) (fr := [0, 3]) ?bbi ?bbj ?bbk ?bbl ?bbm ?bbn
  case bbi => exact rfl
  case bbj => exact (ZcZ (by rfl))
  case bbk => exact (Zbh (K := K) rfl (pv 2))
  case' bbl => intro cl C fp pins s H
  case bbl => exact (ZaG (i := 0) (show ((["row"] : List Str) ++ (["program", "counts"] : List Str)).Nodup by decide +kernel) rfl (Or.inl rfl))
  case' bbm => intro cl C fp pins s H
  case bbm => exact ZbH
  case' bbn => intro cl C fp pins s H
  case bbn => exact (ZaK Crow_fits (hr.mono (by first | decide | lia)) (by rfl) (Zaa (pv 1) (Zaa (pv 0) (Zaa (pv 2) Zad))))
  case bbh => exact Zad
  case bax => exact (Zaf (Zan Zb9))
  case bay => exact Zam
  case' bav => refine' Zaf ?bbo
  case' bbo => refine' Zan ?bbp
  case' bbp => refine' Zcm ?bbq ?bbr ?bbs ?bbt
  case bbq => exact (k_in (K := K) rfl)
  case bbr => exact (Zao (k_ix (K := K) rfl) (Zao (k_ix (K := K) rfl) (pv 2) (ZeZ Zc5 Zab) (fun _ _ => rfl)) Zab (fun _ _ => rfl))
  case bbs => exact (Za0 (Zah Zaw (Zah Zaw Zad)))
  case bbt => exact (by with_unfolding_all rfl)
  walk_at "rd"
  have hlv := D0.length
  have hg := (List.getElem?_eq_some_iff.mp ed).1
  obtain ⟨dd, ed', DA⟩ := D0.get (i := g) (v := vs[g]) (List.getElem?_eq_getElem (by lia))
  rw [ed] at ed'
  cases ed'
  obtain ⟨t, q, ys, ev, hat, hq, _, ry⟩ := DA
  have hyl := ry.length
  rw [List.length_map] at hyl
  have hmem : d ∈ ds := List.mem_of_getElem? ed
  have hr0 := PD.rows d hmem
  have evs : vs[g]? = some (.ref t) := by rw [List.getElem?_eq_getElem (by lia), ev]
  refine Zaj hp (ZaV rfl evs) ?_
  walk_at "rd"
  refine Za6 hat rfl ?_
  walk_at "rd"
  refine Zkc fun pc hpc => ?_
  have s0 := Same.new (o := .dK []) hpc
  have e0 : upd H pc (.dK []) pc = some (.dK []) := Zac
  have ne0 : ∀ o : HO, upd (upd H pc (.dK [])) pc o = upd H pc o := fun o => ZfZ
  walk_at "rd"
  refine Zaj (s0 _ _ hp) (ZaV rfl evs) ?_
  walk_at "rd"
  refine Za6 (s0 _ _ hat) rfl ?_
  walk_at "rd"
  refine ZaO (SqL.of (s0 _ _ hq)) ?_
  walk_at "rd"
  refine ZaO (SqL.of (s0 _ _ hp)) ?_
  refine ZkN e0 (by decide +kernel) ?_
  rw [ZfZ, <- hyl, <- hlv]
  have s1 := Same.new (o := .dK (Zcx d.2.1 (d.2.2.length : Int) (ds.length : Int))) hpc
  have e1 : upd H pc (.dK (Zcx d.2.1 (d.2.2.length : Int) (ds.length : Int))) pc = some (.dK (Zcx d.2.1 (d.2.2.length : Int) (ds.length : Int))) := Zac
  show _
  unfold Zcx at s1 e1
  generalize upd H pc (.dK [((Sum.inr "box" : Key), V.int d.2.1), (Sum.inr "row", V.int (d.2.2.length : Int)), (Sum.inr "def", V.int (ds.length : Int))]) = H1 at s1 e1 ⊢
  walk_at "rd"
  refine Zct (SqL.of (s1 _ _ hq)) ?_
  refine ZcK (xs := ys) (Zax (by lia)) (fun i zs σ Hy => An3 (∃ x1, σ = [x1, some (.ref p), some (.ref pc)]) (Same H1 Hy) (zs = ((d.2.2.take i).map (Za2 d.2.1 d.2.2.length ds)).map V.bl)) ⟨⟨none, rfl⟩, Same.refl _, rfl⟩ (fun i zs σ Hy _ z_ => by obtain ⟨_, s2, _⟩ := z_; exact SqL.of (s2 _ _ (s1 _ _ hq))) ?_ ?_
  · rintro i x zs σ Hy hx hle hlt ⟨⟨x1, rfl⟩, s2, rfl⟩
    obtain ⟨rD, er, rr⟩ := ry.get' hx
    rw [List.getElem?_map] at er
    obtain ⟨r, er', rfl⟩ := Option.map_eq_some_iff.mp er
    have s02 := s1.trans s2
    obtain ⟨pl, pp⟩ := PD.part d hmem r (List.mem_of_getElem? er')
    walk_at "rd"
    refine use3 ⟨p, vs, ds, r, pc, d.2.1, d.2.2.length, rfl, s02 _ _ hp, D0.mono s02, rr.mono s02.ts, pp, pl, rfl, s2 _ _ e1, fun H2 s3 => ?_⟩
    refine ⟨hlt, by simpa using hle, ⟨_, rfl⟩, s2.trans s3, ?_⟩
    rw [List.take_add_one, er']
    simp
  · rintro zs σ Hy hzl ⟨⟨x1, rfl⟩, s2, rfl⟩ pa hpa
    rw [<- hyl, List.take_length]
    have s3 := Same.new (o := .lst ((d.2.2.map (Za2 d.2.1 d.2.2.length ds)).map V.bl)) hpa
    have e3 : upd Hy pa (.lst ((d.2.2.map (Za2 d.2.1 d.2.2.length ds)).map V.bl)) pa = some (.lst ((d.2.2.map (Za2 d.2.1 d.2.2.length ds)).map V.bl)) := Zac
    generalize upd Hy pa (.lst ((d.2.2.map (Za2 d.2.1 d.2.2.length ds)).map V.bl)) = H3 at s3 e3
    have s03 := (s1.trans s2).trans s3
    walk_at "rd"
    refine ⟨pa, d.2.2.map (Za2 d.2.1 d.2.2.length ds), rfl, SqL.of e3, ?_⟩
    have ez : (d.2.2.map (Za2 d.2.1 d.2.2.length ds)).all id = d.2.2.all (Za2 d.2.1 d.2.2.length ds) := by simp [List.all_map]
    rw [ez]
    refine ⟨_, rfl, ?_⟩
    obtain ⟨rs, r, er⟩ : ∃ rs r, d.2.2 = rs ++ [r] := ⟨d.2.2.dropLast, d.2.2.getLast hne, (List.dropLast_concat_getLast hne).symm⟩
    cases hz : d.2.2.all (Za2 d.2.1 d.2.2.length ds) with
    | false =>
      walk_at "rd"
      have k := k H3 s03
      simpa [ZbT, hz] using k
    | true =>
      walk_at "rd"
      have hlast : ∃ v, ys = ys.dropLast ++ [v] /\ Rep H (rowD r) v := by
        have hyne : ys ≠ [] := fun z => by rw [z] at hyl; simp at hyl; exact hne hyl
        refine ⟨ys.getLast hyne, (List.dropLast_concat_getLast hyne).symm, ?_⟩
        have e1 : ys[rs.length]? = some (ys.getLast hyne) := by
          rw [List.getLast_eq_getElem, List.getElem?_eq_getElem (by rw [er] at hyl; simp at hyl; lia)]
          congr 1
          rw [er] at hyl
          simp at hyl
          congr 1
          lia
        obtain ⟨dd, e2, r2⟩ := ry.get' e1
        rw [er] at e2
        simp at e2
        subst e2
        exact r2
      obtain ⟨v, ey, rv⟩ := hlast
      refine Zaj (s03 _ _ hq) (by rw [ey]; exact ZkU) ?_
      walk_at "rd"
      refine ZcR (n := 0) (rv.mono s03.ts) rfl rfl fun u ru => ?_
      obtain rfl : u = .str r.1 := by rwa [Rep] at ru
      walk_at "rd"
      refine ⟨by rw [PySem.sizeLine_eq]; decide, fun p5 hp5 => ?_⟩
      have s5 := Same.new (o := .tup [V.str (Str.ofString "jump"), V.str (Str.ofString "back")]) hp5
      refine ⟨p5, _, rfl, .inr (SqT.of Zac), rfl, rfl, ?_⟩
      have k := k _ (s03.trans s5)
      have ek : ZbT ds d = inV (.str r.1) [.str "jump", .str "back"] := by
        rw [inJB]
        simp only [ZbT, hz, Bool.true_and]
        rw [er]
        simp
      rw [ek] at k
      exact k
noncomputable def Zbg (d : PDef) : Bool := (decide (1 <= d.2.1) && decide (d.2.1 <= 8)) && ((decide (0 <= d.1) && decide (d.1 <= if d.2.1 < 4 then d.2.1 else 4)) && (decide (1 <= (d.2.2.length : Int)) && decide ((d.2.2.length : Int) <= 30)))
theorem Zgn {d : PDef} (h : Zbg d = true) : d.2.2 ≠ [] := by
 intro e
 simp [Zbg, e] at h
inductive Pr_head (x : V) (H : Hp) (Q : VK) : Prop
 | mk (d) (_ : DefAt [] H d x) (_ : d.2.2.length <= 1000) (_ : Q (.bl (Zbg d)) H) : Pr_head x H Q
noncomputable def Zic : Sp := sp1 (Pr_head)
theorem sc_head_fits : FnScope ["one", "takes", "boxes", "rows"] ["one"] (Zag Zby) := ⟨rfl, rfl, rfl, by decide +kernel, rfl, by decide +kernel, by decide +kernel⟩
theorem Zgv (B : Blt mg) (G : Glb K w mg) (T_head_fits : TopFn K mg "head_fits" Zby ["one"]) (Cis_whole : Callee P w K mg base "is_whole" 1 ["thing"] ZcU) : Callee P w K mg base "head_fits" 2 ["one"] Zic := by
 refine T_head_fits.ok1 sc_head_fits fun f cdv A outer s H v1 Q E hr h => ?_
 have nd := sc_head_fits.nd
 obtain ⟨⟨tk, bx, rs⟩, ⟨t, q, ys, rfl, ht, hq, _, ry⟩, hl, k⟩ := h
 dsimp only at ht ry hl
 have hyl := ry.length
 rw [List.length_map] at hyl
 refine' ZaI [some (.ref t), none, none, none] rfl ?hb ?hg
 case' hb => refine' Zae ?bab ?bac
 case' bab => refine' ZaF ?bad ?bae ?baf
 case' bad => refine' Zb1 ?bag
 case' bag => refine' PW.pt ?bah
 case' bah => refine' Zb0 ?bai ?baj
 case' bai => refine' Zbm ?bak
 case' bak => refine' Zai ?bal ?bam ?ban ?bao ?bap
 case bal => exact ZaQ
 case bam => exact (by rfl)
 case ban => exact B.b_isinstance
 case bao => exact Zaq
 case bap => exact (Zaa (pv 0) (Zaa (Za7 (v := .ty "tuple") (by rfl) B.b_tuple ZbX rfl) Zad))
 case baj => exact (ZbV (Zal Za1 (Zai (Zbt (K := K) rfl) (by rfl) B.b_len ZaW (Zaa (pv 0) Zad)) Zab (Zar _)))
 case bae => exact (Zaf (Zan Zb9))
 case baf => exact Zam
 case' bac => refine' Zae ?baq ?bar
 case baq => exact (Zb7 (i := 1) nd rfl (Or.inl rfl) (Zao (k_ix (K := K) rfl) (pv 0) Zab (fun _ _ => rfl)))
 case' bar => refine' Zae ?bas ?bat
 case bas => exact (Zb7 (i := 2) nd rfl (Or.inl rfl) (Zao (k_ix (K := K) rfl) (pv 0) Zab (fun _ _ => rfl)))
 case' bat => refine' Zae ?bau ?bav
 case bau => exact (Zb7 (i := 3) nd rfl (Or.inl rfl) (Zao (k_ix (K := K) rfl) (pv 0) Zab (fun _ _ => rfl)))
 case' bav => refine' Zae ?baw ?bax
 case' baw => refine' ZaF ?bay ?baz ?bba
 case' bay => refine' Zb1 ?bbb
 case' bbb => refine' PW.pt ?bbc
 case' bbc => refine' Zb0 ?bbd ?bbe
 case bbd => exact (Zbm (ZaK Cis_whole (hr.mono (by first | decide | lia)) (by rfl) (Zaa (pv 1) Zad)))
 case' bbe => refine' Zb0 ?bbf ?bbg
 case bbf => exact (Zbm (ZaK Cis_whole (hr.mono (by first | decide | lia)) (by rfl) (Zaa (pv 2) Zad)))
 case' bbg => refine' ZbV ?bbh
 case' bbh => refine' Zbm ?bbi
 case' bbi => refine' Zai ?bbj ?bbk ?bbl ?bbm ?bbn
 case bbj => exact ZaQ
 case bbk => exact (by rfl)
 case bbl => exact B.b_isinstance
 case bbm => exact Zaq
 case bbn => exact (Zaa (pv 3) (Zaa (Za7 (v := .ty "list") (by rfl) B.b_list ZcY rfl) Zad))
 case baz => exact (Zaf (Zan Zb9))
 case bba => exact Zam
 case' bax => refine' Zaf ?bbo
 case' bbo => refine' Zan ?bbp
 case' bbp => refine' ZdM ?bbq ?bbr
 case bbq => exact (Zdc Zdt Zdt Zab (pv 2) (ZcV (by rfl) G.c_MOST_BOXES))
 case' bbr => refine' ZdM ?bbs ?bbt
 case' bbs => refine' Zdc ?bbu ?bbv ?bbw ?bbx ?bby
 case bbu => exact Zdt
 case bbv => exact Zdt
 case bbw => exact Zab
 case bbx => exact (pv 1)
 case bby => exact (Zai (Zeq rfl) (by rfl) B.b_min ZjF (Zaa (ZcV (by rfl) G.c_MOST_TAKES) (Zaa (pv 2) Zad)))
 case' bbt => refine' Zed ?bbz
 case bbz => exact (Zdc Zdt Zdt Zab (Zai (Zbt (K := K) rfl) (by rfl) B.b_len ZaW (Zaa (pv 3) Zad)) (ZcV (by rfl) G.c_MOST_ROWS))
 walk_at "rd"
 refine ZaZ (t := "tuple") (Zdm ht) (by simp) (ZbG (iteT ?_))
 walk_at "rd"
 refine Zb3 (SqT.of ht) ?_
 walk_at "rd"
 refine ZkE rfl ?_
 walk_at "rd"
 refine Za6 ht rfl ?_
 walk_at "rd"
 refine Za6 ht rfl ?_
 walk_at "rd"
 refine Za6 ht rfl ?_
 walk_at "rd"
 refine use1 ⟨"int", rfl, ?_⟩
 rw [Zgl]
 walk_at "rd"
 refine use1 ⟨"int", rfl, ?_⟩
 rw [Zgl]
 walk_at "rd"
 refine ZaZ (t := "list") (Zd1 hq) (by simp) (ZbG (Zgk ?_))
 simp only [Zbg] at k
 rw [hyl] at k
 walk_at "rd"
 refine Zav (fun h1 => ?_) (fun h1 => ?_)
 ·walk_at "rd"
  simp only [decide_eq_true h1, Bool.true_and] at k
  refine Zav (fun h2 => ?_) (fun h2 => ?_)
  ·walk_at "rd"
   simp only [decide_eq_true h2, Bool.true_and] at k
   refine Zav (fun h3 => ?_) (fun h3 => ?_)
   ·walk_at "rd"
    simp only [decide_eq_true h3, Bool.true_and] at k
    refine Zav (fun h4 => ?_) (fun h4 => ?_)
    ·walk_at "rd"
     refine ZaO (SqL.of hq) ?_
     simp only [decide_eq_true h4, Bool.true_and] at k
     walk_at "rd"
     refine Zav (fun h5 => ?_) (fun h5 => ?_)
     ·walk_at "rd"
      simpa [h5] using k
     ·simpa [h5] using k
    ·simpa [h4] using k
   ·walk_at "rd"
    simpa [h3] using k
  ·simpa [h2] using k
 ·walk_at "rd"
  simpa [h1] using k
noncomputable def Zdx (ds : List PDef) : Bool := (decide (1 <= (ds.length : Int)) && decide ((ds.length : Int) <= 6)) && (ds.all Zbg && (decide ((ds.map (·.1)).headD 0 = 0) && ds.all (ZbT ds)))
inductive Pr_formed (x : V) (H : Hp) (Q : VK) : Prop
 | mk (p vs ds) (_ : x = .ref p) (_ : H p = some (.lst vs)) (_ : DefsAt [] H ds vs) (_ : PgD ds) (_ : ∀ H', Same H H' -> Q (.bl (Zdx ds)) H') : Pr_formed x H Q
noncomputable def Zid : Sp := sp1 (Pr_formed)
theorem sc_formed : FnScope ["program"] ["program"] (Zag Zcd) := ⟨rfl, rfl, rfl, by decide +kernel, rfl, by decide +kernel, by decide +kernel⟩
theorem ZkS (B : Blt mg) (G : Glb K w mg) (T_formed : TopFn K mg "formed" Zcd ["program"]) (Chead_fits : Callee P w K mg base "head_fits" 2 ["one"] Zic) (Crows_fit : Callee P w K mg base "rows_fit" 5 ["program", "f"] Zd4) : Callee P w K mg base "formed" 6 ["program"] Zid := by
  refine T_formed.ok1 sc_formed fun f cdv A outer s H v1 Q E hr h => ?_
  have nd := sc_formed.nd
  obtain ⟨p, vs, ds, rfl, hp, D0, PD, k⟩ := h
  have hlv := D0.length
  have hl := PD.len
  refine' ZaI [some (.ref p)] rfl ?hb ?hg
  case' hb => refine' Zae ?bab ?bac
  case' bab => refine' ZaF ?bad ?bae ?baf
  case' bad => refine' Zb1 ?bag
  case' bag => refine' PW.pt ?bah
  case' bah => refine' Zb0 ?bai ?baj
  case' bai => refine' Zbm ?bak
  case' bak => refine' Zai ?bal ?bam ?ban ?bao ?bap
  case bal => exact ZaQ
  case bam => exact (by rfl)
  case ban => exact B.b_isinstance
  case bao => exact Zaq
  case bap => exact (Zaa (pv 0) (Zaa (Za7 (v := .ty "list") (by rfl) B.b_list ZcY rfl) Zad))
  case' baj => refine' ZbV ?baq
  case baq => exact (ZgT Zdt Zdt Zab (Zai (Zbt (K := K) rfl) (by rfl) B.b_len ZaW (Zaa (pv 0) Zad)) (ZcV (by rfl) G.c_MOST_DEFS))
  case bae => exact (Zaf (Zan Zb9))
  case baf => exact Zam
  case' bac => refine' Zae ?bar ?bas
  case' bar => refine' ZaF ?bat ?bau ?bav
  case' bat => refine' Zb1 ?baw
  case' baw => refine' Zbm ?bax
  case' bax => refine' Zai ?bay ?baz ?bba ?bbb ?bbc
  case bay => exact (ZhA (K := K) rfl rfl)
  case baz => exact (by rfl)
  case bba => exact B.b_all
  case bbb => exact ZeO
  case' bbc => refine' Zcf ?bbd ?bbe
  case' bbd => refine' ZbY (LN := ["one"]) (FN := []) (fr := []) ?bbf ?bbg ?bbh ?bbi ?bbj ?bbk
  case bbf => exact rfl
  case bbg => exact (ZcZ (by rfl))
  case bbh => exact (Zbh (K := K) rfl (pv 0))
  case' bbi => intro cl C fp pins s H
  case bbi => exact (ZaG (i := 0) (show ((["one"] : List Str) ++ ([] : List Str)).Nodup by decide +kernel) rfl (Or.inl rfl))
  case' bbj => intro cl C fp pins s H
  case bbj => exact ZbH
  case' bbk => intro cl C fp pins s H
  case bbk => exact (ZaK Chead_fits (hr.mono (by first | decide | lia)) (by rfl) (Zaa (pv 0) Zad))
  case bbe => exact Zad
  case bau => exact (Zaf (Zan Zb9))
  case bav => exact Zam
  case' bas => refine' Zae ?bbl ?bbm
  case' bbl => refine' ZaF ?bbn ?bbo ?bbp
  case bbn => exact (Zal Ze0 (Zao (k_ix (K := K) rfl) (Zao (k_ix (K := K) rfl) (pv 0) Zab (fun _ _ => rfl)) Zab (fun _ _ => rfl)) Zab (Zar _))
  case bbo => exact (Zaf (Zan Zb9))
  case bbp => exact Zam
  case' bbm => refine' Zaf ?bbq
  case' bbq => refine' Zan ?bbr
  case' bbr => refine' Zai ?bbs ?bbt ?bbu ?bbv ?bbw
  case bbs => exact (ZhA (K := K) rfl rfl)
  case bbt => exact (by rfl)
  case bbu => exact B.b_all
  case bbv => exact ZeO
  case' bbw => refine' Zcf ?bbx ?bby
  case' bbx => refine' ZbY (LN := ["f"]) (FN := ["program"]) (fr := [0]) ?bbz ?bca ?bcb ?bcc ?bcd ?bce
  case bbz => exact rfl
  case bca => exact (ZcZ (by rfl))
  case bcb => exact (ZbQ rfl B.b_range (ZaB (Zai (Zbt (K := K) rfl) (by rfl) B.b_len ZaW (Zaa (pv 0) Zad)) Zad))
  case' bcc => intro cl C fp pins s H
  case bcc => exact (ZaG (i := 0) (show ((["f"] : List Str) ++ (["program"] : List Str)).Nodup by decide +kernel) rfl (Or.inl rfl))
  case' bcd => intro cl C fp pins s H
  case bcd => exact ZbH
  case' bce => intro cl C fp pins s H
  case bce => exact (ZaK Crows_fit (hr.mono (by first | decide | lia)) (by rfl) (Zaa (pv 1) (Zaa (pv 0) Zad)))
  case bby => exact Zad
  walk_at "rd"
  refine ZaZ (t := "list") (Zd1 hp) (by simp) (ZbG (iteT ?_))
  walk_at "rd"
  refine ZaO (SqL.of hp) ?_
  walk_at "rd"
  rw [<- hlv]
  simp only [Zdx] at k
  refine Zav (fun h1 => ?_) (fun h1 => ?_)
  · simp only [decide_eq_true h1, Bool.true_and] at k
    walk_at "rd"
    refine ZdN (fun h2 => ?_) (fun h2 => ?_)
    · walk_at "rd"
      simpa [h2] using k H (Same.refl _)
    · simp only [decide_eq_true h2, Bool.true_and] at k
      walk_at "rd"
      refine Zct (SqL.of hp) ?_
      refine ZcK (xs := vs) (Zax (by lia)) (fun i zs σ Hy => An3 (∃ x1, σ = [x1]) (Hy = H) (zs = ((ds.take i).map Zbg).map V.bl)) ⟨⟨none, rfl⟩, rfl, rfl⟩ (fun i zs σ Hy _ z_ => by obtain ⟨_, e, _⟩ := z_; rw [e]; exact SqL.of hp) ?_ ?_
      · rintro i x zs σ Hy hx hle hlt ⟨⟨x1, rfl⟩, rfl, rfl⟩
        obtain ⟨d, ed, DA⟩ := D0.get hx
        walk_at "rd"
        refine use1 ⟨d, DA, PD.rows d (List.mem_of_getElem? ed), ?_⟩
        refine ⟨hlt, by simpa using hle, ⟨_, rfl⟩, rfl, ?_⟩
        rw [List.take_add_one, ed]
        simp
      · rintro zs σ Hy hzl ⟨⟨x1, rfl⟩, eH, rfl⟩ pa hpa
        subst eH
        rw [<- hlv, List.take_length]
        have s3 := Same.new (o := .lst ((ds.map Zbg).map V.bl)) hpa
        have e3 : upd Hy pa (.lst ((ds.map Zbg).map V.bl)) pa = some (.lst ((ds.map Zbg).map V.bl)) := Zac
        generalize upd Hy pa (.lst ((ds.map Zbg).map V.bl)) = H3 at s3 e3
        walk_at "rd"
        refine ⟨pa, ds.map Zbg, rfl, SqL.of e3, ?_⟩
        have ez : (ds.map Zbg).all id = ds.all Zbg := by simp [List.all_map]
        rw [ez]
        refine ⟨_, rfl, ?_⟩
        cases hz : ds.all Zbg with
        | false =>
          walk_at "rd"
          simpa [hz] using k H3 s3
        | true =>
          simp only [hz, Bool.true_and] at k
          walk_at "rd"
          have h0 : 0 < ds.length := by lia
          obtain ⟨d0, ed0, t0, q0, ys0, ev0, hat0, _⟩ := D0.get (i := 0) (v := vs[0]'(by lia)) (List.getElem?_eq_getElem (by lia))
          have ev : vs[0]? = some (.ref t0) := by rw [List.getElem?_eq_getElem (by lia), ev0]
          refine Zaj (s3 _ _ hp) (ZaV (n := 0) rfl ev) ?_
          walk_at "rd"
          refine Za6 (s3 _ _ hat0) rfl ?_
          have eh : (ds.map (·.1)).headD 0 = d0.1 := by
            cases ds with
            | nil => simp at h0
            | cons d ds => simp at ed0; subst ed0; rfl
          rw [eh] at k
          walk_at "rd"
          refine ZdN (fun h4 => ?_) (fun h4 => ?_)
          · walk_at "rd"
            simpa [h4] using k H3 s3
          · simp only [decide_eq_true h4, Bool.true_and] at k
            walk_at "rd"
            refine ZaO (SqL.of (s3 _ _ hp)) ?_
            walk_at "rd"
            refine Zdh (by lia) (by lia) ?_
            rw [<- hlv]
            refine Zfc (n := (ds.length : Int).toNat) (Zax (by lia)) (fun i zs σ Hz => An3 (∃ x1, σ = [x1, some (.ref p)]) (Same H3 Hz) (zs = ((ds.take i).map (ZbT ds)).map V.bl)) ⟨⟨none, rfl⟩, Same.refl _, rfl⟩ ?_ ?_
            · rintro i zs σ Hz hi hle hlt ⟨⟨x1, rfl⟩, s4, rfl⟩
              have hi' : i < ds.length := by lia
              have s04 := s3.trans s4
              walk_at "rd"
              rw [show (0 : Int) + (i : Int) = (i : Int) by lia]
              refine use2 ⟨p, vs, ds, i, ds[i], rfl, rfl, s04 _ _ hp, D0.mono s04, PD, List.getElem?_eq_getElem hi', Zgn (List.all_eq_true.mp hz _ (List.getElem_mem hi')), fun H5 s5 => ?_⟩
              refine ⟨hlt, by simpa using hle, ⟨_, rfl⟩, s4.trans s5, ?_⟩
              rw [List.take_add_one, List.getElem?_eq_getElem hi', List.map_append, List.map_append]
              rfl
            · rintro zs σ Hz hzl ⟨⟨x1, rfl⟩, s4, rfl⟩ pb hpb
              rw [show (ds.length : Int).toNat = ds.length by lia, List.take_length]
              have s5 := Same.new (o := .lst ((ds.map (ZbT ds)).map V.bl)) hpb
              walk_at "rd"
              refine ⟨pb, ds.map (ZbT ds), rfl, SqL.of Zac, ?_⟩
              have ez : (ds.map (ZbT ds)).all id = ds.all (ZbT ds) := by simp [List.all_map]
              rw [ez]
              exact k _ ((s3.trans s4).trans s5)
  · walk_at "rd"
    simpa [h1] using k H (Same.refl _)
inductive Pr_number (x : V) (H : Hp) (Q : VK) : Prop
 | mk (b l) (_ : x = .ref b) (_ : BagAt H b l) (_ : ∀ r H', r.natAbs < 10 ^ 60 -> BagAt H' b l -> BSame b H H' -> Q (.int r) H') : Pr_number x H Q
noncomputable def Zc9 : Sp := sp1 (Pr_number)
noncomputable def ZjL (boxes many ns : Int) (c : Str) (n : Int) : Prop := (c = "p" -> 0 <= n /\ n < boxes) /\ (c = "t" -> 0 <= n /\ n < many) /\ (c = "f" -> 0 <= n /\ n < ns) /\ (c = "c" -> -99 <= n /\ n <= 99) /\ n.natAbs < 10 ^ 60
noncomputable def ZhM (sg : List (Int × Int)) (boxes many : Int) (ps : List D) (c : Str) (d : D) : Prop :=
 (c ≠ "q" /\ ∃ n, d = .int n /\ ZjL boxes many sg.length c n) \/
 (c = "q" /\ ∃ (args : List Int) (f : Nat) (tk : Int × Int), ps[1]? = some (.int f) /\ sg[f]? = some tk /\ d = .tup (args.map D.int) /\ (args.length : Int) = tk.1 /\ ∀ q ∈ args, 0 <= q /\ q < boxes)
structure RowG (sg : List (Int × Int)) (boxes many : Int) (w ls : Str) (ps : List D) : Prop where
 tab : (w, ls) ∈ lettersL
 len : ps.length = ls.cps.size
 parts : ∀ (i c : Nat), ls.cps[i]? = some c -> ∃ d, ps[i]? = some d /\ ZhM sg boxes many ps ⟨#[c]⟩ d
noncomputable def ZkW (sg : List (Int × Int)) (boxes many : Int) (r : Str × List D) : Prop := ∃ ls, RowG sg boxes many r.1 ls r.2
structure RowsOk (sg : List (Int × Int)) (boxes many : Int) (rs : List (Str × List D)) : Prop where
 len : (rs.length : Int) = many
 all : ∀ r ∈ rs, ZkW sg boxes many r
 last : ∃ r, rs[rs.length - 1]? = some r /\ (r.1 = "back" \/ r.1 = "jump")
structure ProgOk (sg : List (Int × Int)) (ds : List PDef) : Prop where
 sgs : SgOk sg
 heads : ds.map (fun d => (d.1, d.2.1)) = sg
 rows : ∀ d ∈ ds, ∃ many, 1 <= many /\ many <= 30 /\ RowsOk sg d.2.1 many d.2.2
theorem sc__law_draw : FnScope ["bag", "many", "found"] ["bag", "many"] (Zag ZbC) := ⟨rfl, rfl, rfl, by decide +kernel, rfl, by decide +kernel, by decide +kernel⟩
theorem Zgz (B : Blt mg) (T__law_draw : TopFn K mg "_law_draw" ZbC ["bag", "many"]) : Callee P w K mg base "_law_draw" 1 ["bag", "many"] ZcC := by
 refine T__law_draw.ok2 sc__law_draw fun f cdv A outer s H v1 v2 Q E hr h => ?_
 have nd := sc__law_draw.nd
 obtain ⟨b, l, n, rfl, rfl, ⟨hn, hn2⟩, Bg, k⟩ := h
 obtain ⟨xs, i, m, st, c, hb, hl, hi, ⟨hm0, hm1⟩, ⟨hs0, hs1⟩, hxs, hlen⟩ := Bg.ex
 have nbl : l ≠ b := Zmq hl hb (by
  intro z
  injection z with z
  cases xs <;> simp [bagL] at z)
 have hl2 : ∀ o, upd H b o l = some (.lst (xs.map V.int)) := fun o => by rw [ZaH nbl]; exact hl
 refine' ZaI [some (.ref b), some (.int n), none] rfl ?hb ?hg
 case' hb => refine' Zae ?bab ?bac
 case' bab => refine' ZaF ?bad ?bae ?baf
 case' bad => refine' PW.pt ?bag
 case' bag => refine' Zb0 ?bah ?bai
 case bah => exact (Zal Za1 (Zao (k_ix (K := K) rfl) (pv 0) Zab (fun _ _ => rfl)) Zab (Zar _))
 case' bai => refine' ZbV ?baj
 case' baj => refine' Zal ?bak ?bal ?bam ?ban
 case bak => exact ZiO
 case bal => exact (Zao (k_ix (K := K) rfl) (pv 0) Zab (fun _ _ => rfl))
 case bam => exact (Zai (Zbt (K := K) rfl) (by rfl) B.b_len ZaW (Zau (Zao (k_ix (K := K) rfl) (pv 0) Zab (fun _ _ => rfl)) Zad))
 case ban => exact (Zar _)
 case' bae => refine' Zae ?bao ?bap
 case' bao => refine' ZeC ?baq ?bar
 case' baq => refine' Zao ?bas ?bat ?bau ?bav
 case bas => exact (k_ix (K := K) rfl)
 case bat => exact (Zao (k_ix (K := K) rfl) (pv 0) Zab (fun _ _ => rfl))
 case bau => exact (Zao (k_ix (K := K) rfl) (pv 0) Zab (fun _ _ => rfl))
 case bav => exact (fun _ _ => rfl)
 case bar => exact (Zfq (pv 0) Zab Zda)
 case bap => exact (Zaf (ZeC (Zas Za8 (Zao (k_ix (K := K) rfl) (pv 0) Zab (fun _ _ => rfl)) Zab) (Zfq (pv 0) Zab Zda)))
 case' baf => refine' Zaf ?baw
 case' baw => refine' ZaF ?bax ?bay ?baz
 case bax => exact (Zal Za1 (Zao (k_ix (K := K) rfl) (pv 0) Zab (fun _ _ => rfl)) Zab (Zar _))
 case' bay => refine' Zae ?bba ?bbb
 case bba => exact (ZeC (Zas Za8 (Zao (k_ix (K := K) rfl) (pv 0) Zab (fun _ _ => rfl)) Zab) (Zfq (pv 0) Zab Zda))
 case' bbb => refine' Zae ?bbc ?bbd
 case' bbc => refine' ZeC ?bbe ?bbf
 case' bbe => refine' Zas ?bbg ?bbh ?bbi
 case bbg => exact Zb2
 case' bbh => refine' Zas ?bbj ?bbk ?bbl
 case bbj => exact Za8
 case' bbk => refine' Zas ?bbm ?bbn ?bbo
 case bbm => exact Za8
 case' bbn => refine' Zas ?bbp ?bbq ?bbr
 case bbp => exact Za8
 case bbq => exact (Zas Zg0 (Zao (k_ix (K := K) rfl) (pv 0) Zab (fun _ _ => rfl)) Zab)
 case bbr => exact (Zas ZiN Zab (Zao (k_ix (K := K) rfl) (pv 0) Zab (fun _ _ => rfl)))
 case bbo => exact (Zas ZiN Zab (Zao (k_ix (K := K) rfl) (pv 0) Zab (fun _ _ => rfl)))
 case bbl => exact Zab
 case bbi => exact Zab
 case bbf => exact (Zfq (pv 0) Zab Zda)
 case bbd => exact (Zaf (Zan (Zas Zb2 (Zas ZdW (Zao (k_ix (K := K) rfl) (pv 0) Zab (fun _ _ => rfl)) Zab) (pv 1))))
 case baz => exact Zam
 case' bac => refine' Zae ?bbs ?bbt
 case bbs => exact (Zbr (i := 2) nd rfl (Or.inl rfl) (Zas Zb2 (Zao (k_ix (K := K) rfl) (pv 0) Zab (fun _ _ => rfl)) (pv 1)))
 case' bbt => refine' Zae ?bbu ?bbv
 case bbu => exact (ZeC (Zas ZdW (Zao (k_ix (K := K) rfl) (pv 0) Zab (fun _ _ => rfl)) (pv 1)) (Zfq (pv 0) Zab Zda))
 case bbv => exact (Zaf (Zan (pv 2)))
 have fin : ∀ (j : Nat) (m' : Int), j <= xs.length -> 0 <= m' -> m' <= 10 ^ 60 -> ∀ H1, BSame b H H1 -> H1 b = some (.lst (bagL l j m' st c)) -> H1 l = some (.lst (xs.map V.int)) ->
   Q (.int (m' % n)) (upd H1 b (.lst (bagL l j (m' / n) st c))) := by
  intro j m' hj h0 h1 H1 bs hb1 hl1
  have hd0 : 0 <= m' / n := Int.ediv_nonneg h0 (Int.le_of_lt hn)
  have hd1 : m' / n <= m' := Int.ediv_le_self _ h0
  refine k _ _ (Int.emod_nonneg _ (by lia)) (Int.emod_lt_of_pos _ hn) ⟨xs, j, m' / n, st, c, Zac, by rw [ZaH nbl]; exact hl1, hj, ⟨hd0, by lia⟩, ⟨hs0, hs1⟩, hxs, hlen⟩ (bs.trans BSame.wr)
 have tail : ∀ (j : Nat) (m' : Int) (σ2 : St), σ2 = [some (.ref b), some (.int n), none] -> j <= xs.length -> 0 <= m' -> m' <= 10 ^ 60 -> ∀ H1, BSame b H H1 -> H1 b = some (.lst (bagL l j m' st c)) -> H1 l = some (.lst (xs.map V.int)) ->
   tSeq (tAsg (tOp (rI (fun _ j => 0 < j) fun i j => .int (i % j)) (tOp (rIxA K) (tVar 0) (tC (.int 2))) (tVar 1)) (ZdQ 2))
    (tSeq (tAsg (tOp (rI ZmY fun i j => .int (i / j)) (tOp (rIxA K) (tVar 0) (tC (.int 2))) (tVar 1)) (gSub (tVar 0) (tC (.int 2)) Zmc)) (tRet (tVar 2))) { nx := fun _ H' => Q .non H', rt := Q } σ2 H1 := by
  intro j m' σ2 e hj h0 h1 H1 bs hb1 hl1
  subst e
  walk_at "rd"
  refine Zaj (v := .int m') hb1 rfl ?_
  walk_at "rd"
  refine rd_I hn ?_
  walk_at "rd"
  refine Zaj (v := .int m') hb1 rfl ?_
  walk_at "rd"
  refine rd_I (Zfd hn (by lia)) ?_
  walk_at "rd"
  refine Zd9 (k := 2) hb1 rfl ?_
  walk_at "rd"
  exact fin j m' hj h0 h1 H1 bs hb1 hl1
 walk_at "rd"
 refine Zaj (v := .int m) hb rfl ?_
 walk_at "rd"
 refine Zav (fun hm => ?_) (fun hm => ?_)
 ·walk_at "rd"
  refine Zaj (v := .int i) hb rfl ?_
  walk_at "rd"
  refine Zaj (v := .ref l) hb rfl ?_
  walk_at "rd"
  refine ZaO (SqL.of hl) ?_
  walk_at "rd"
  rw [List.length_map]
  refine Zav (fun hi2 => ?_) (fun hi2 => ?_)
  ·walk_at "rd"
   refine Zaj (v := .ref l) hb rfl ?_
   walk_at "rd"
   refine Zaj (v := .int i) hb rfl ?_
   walk_at "rd"
   have hil : i < xs.length := by lia
   have hxi := hxs _ (List.getElem_mem hil)
   refine Zaj (v := .int xs[i]) hl (ZaV (n := i) rfl (by rw [List.getElem?_map, List.getElem?_eq_getElem hil]; rfl)) ?_
   walk_at "rd"
   refine Zd9 (k := 2) hb rfl ?_
   walk_at "rd"
   refine Zaj (v := .int i) Zac rfl ?_
   walk_at "rd"
   refine Zd9 (k := 1) Zac rfl ?_
   exact tail (i + 1) xs[i] _ rfl (by lia) hxi.1 hxi.2 _ (BSame.wr.trans BSame.wr) Zac (by rw [ZaH nbl]; exact hl2 _)
  ·walk_at "rd"
   refine Zaj (v := .int m) hb rfl ?_
   walk_at "rd"
   refine ZeH hm ?_
   walk_at "rd"
   refine Zaj (v := .int c) hb rfl ?_
   walk_at "rd"
   refine Zd9 (k := 4) hb rfl ?_
   walk_at "rd"
   refine Zaj (v := .int st) Zac rfl ?_
   walk_at "rd"
   refine rd_I ⟨by decide, by decide, by lia⟩ ?_
   walk_at "rd"
   refine Zaj (v := .int st) Zac rfl ?_
   walk_at "rd"
   refine rd_I (.inl ⟨by decide, by decide⟩) ?_
   walk_at "rd"
   refine Zaj (v := .int (c + 1)) Zac rfl ?_
   walk_at "rd"
   refine rd_I (.inl ⟨by decide, by decide⟩) ?_
   walk_at "rd"
   refine rd_I (by decide) ?_
   walk_at "rd"
   refine Zd9 (k := 3) Zac rfl ?_
   walk_at "rd"
   generalize hst : (st ^ (3 : Int).toNat + 48271 * st + 1013 * (c + 1) + 1) % 2147483647 = st'
   have h0 : 0 <= st' := by rw [<- hst]; exact Int.emod_nonneg _ (by decide)
   have h1 : st' < 2147483647 := by rw [<- hst]; exact Int.emod_lt_of_pos _ (by decide)
   refine Zaj (v := .int st') Zac rfl ?_
   walk_at "rd"
   refine rd_I (Zfd (by decide) (by decide +kernel)) ?_
   walk_at "rd"
   refine rd_I hn ?_
   refine k _ _ (Int.emod_nonneg _ (by lia)) (Int.emod_lt_of_pos _ hn) ⟨xs, i, m, st', c + 1, Zac, by rw [ZaH nbl]; exact hl2 _, hi, ⟨hm0, hm1⟩, ⟨h0, h1⟩, hxs, hlen⟩ (BSame.wr.trans BSame.wr)
 ·walk_at "rd"
  refine Zaj (v := .int m) hb rfl ?_
  walk_at "rd"
  refine ZcS hm ?_
  exact tail i m _ rfl hi hm0 hm1 H (BSame.refl _ _) hb hl
theorem sc__law_number : FnScope ["bag"] ["bag"] (Zag Zbc) := ⟨rfl, rfl, rfl, by decide +kernel, rfl, by decide +kernel, by decide +kernel⟩
theorem Zfg (T__law_number : TopFn K mg "_law_number" Zbc ["bag"]) (Zak : Callee P w K mg base "_law_draw" 1 ["bag", "many"] ZcC) : Callee P w K mg base "_law_number" 2 ["bag"] Zc9 := by
 refine T__law_number.ok1 sc__law_number fun f cdv A outer s H v1 Q E hr h => ?_
 have nd := sc__law_number.nd
 obtain ⟨b, l, rfl, Bg, k⟩ := h
 refine' ZaI [some (.ref b)] rfl ?hb ?hg
 case' hb => refine' Zae ?bab ?bac
 case' bab => refine' ZaF ?bad ?bae ?baf
 case bad => exact (Zal Za1 (ZaK Zak (hr.mono (by first | decide | lia)) (by rfl) (Zaa (pv 0) (Zah Zab Zad))) Zab (Zar _))
 case' bae => refine' Zaf ?bag
 case' bag => refine' Zan ?bah
 case' bah => refine' Zas ?bai ?baj ?bak
 case bai => exact ZiM
 case' baj => refine' Zas ?bal ?bam ?ban
 case bal => exact ZcI
 case bam => exact (Zas ZiM (ZaK Zak (hr.mono (by first | decide | lia)) (by rfl) (Zaa (pv 0) (Zah Zab Zad))) Zab)
 case ban => exact Zab
 case bak => exact (ZaK Zak (hr.mono (by first | decide | lia)) (by rfl) (Zaa (pv 0) (Zbs (Zas Zg0 Zab Zab) Zad)))
 case baf => exact Zam
 case bac => exact (Zaf (Zan (Zas ZcI (ZaK Zak (hr.mono (by first | decide | lia)) (by rfl) (Zaa (pv 0) (Zah Zab Zad))) Zab)))
 walk_at "rd"
 refine use2 ⟨b, l, 8, rfl, rfl, ⟨by decide, by decide⟩, Bg, fun r H1 h0 h1 B1 b1 => ?_⟩
 walk_at "rd"
 refine Zav (fun _ => ?_) (fun _ => ?_)
 ·walk_at "rd"
  refine use2 ⟨b, l, 2, rfl, rfl, ⟨by decide, by decide⟩, B1, fun r2 H2 g0 g1 B2 b2 => ?_⟩
  walk_at "rd"
  refine rd_I (Zjt (by lia) (by decide +kernel)) ?_
  walk_at "rd"
  refine rd_I Zlq ?_
  walk_at "rd"
  refine use2 ⟨b, l, _, rfl, rfl, ⟨by decide +kernel, by decide +kernel⟩, B2, fun r3 H3 f0 f1 B3 b3 => ?_⟩
  rw [ten60] at f1
  refine rd_I (Zjt (by lia) (by lia)) ?_
  refine k _ _ ?_ B3 ((b1.trans b2).trans b3)
  rw [Int.natAbs_mul]
  have e1 : (r2 * 2 - 1).natAbs <= 1 := by lia
  have e2 : r3.natAbs < 10 ^ 60 := by lia
  exact Nat.lt_of_le_of_lt (Nat.le_trans (Nat.mul_le_mul_right _ e1) (Nat.le_of_eq (Nat.one_mul _))) e2
 ·walk_at "rd"
  refine use2 ⟨b, l, 9, rfl, rfl, ⟨by decide, by decide⟩, B1, fun r2 H2 g0 g1 B2 b2 => ?_⟩
  walk_at "rd"
  exact k _ _ (by lia) B2 (b1.trans b2)
theorem sc__law_bag : FnScope ["script", "stir", "cell"] ["script"] (Zag ZbN) := ⟨rfl, rfl, rfl, by decide +kernel, rfl, by decide +kernel, by decide +kernel⟩
theorem ZhJ (B : Blt mg) (T__law_bag : TopFn K mg "_law_bag" ZbN ["script"]) : Callee P w K mg base "_law_bag" 1 ["script"] (sp_bag K) := by
 refine T__law_bag.ok1 sc__law_bag fun f cdv A outer s H v1 Q E hr h => ?_
 have nd := sc__law_bag.nd
 obtain ⟨a, ns, rfl, hS, hlen, k⟩ := h
 refine' ZaI [some (.ref a), none, none] rfl ?hb ?hg
 case' hb => refine' Zae ?bab ?bac
 case bab => exact (Zdb (i := 1) nd rfl (Or.inl rfl) Zab)
 case' bac => refine' Zae ?bad ?bae
 case' bad => refine' ZcA ?baf ?bag ?bah ?bai ?baj
 case baf => exact PassesOwn.never
 case bag => exact rfl
 case bah => exact (Zbh (K := K) rfl (ZaC (k_sl (K := K) rfl) (pv 0) ZaM (ZaJ Zab)))
 case bai => exact (ZaG (i := 2) nd rfl (Or.inl rfl))
 case' baj => refine' Zaf ?bak
 case' bak => refine' Zbr (i := 1) ?bal ?bam ?ban ?bao
 case bal => exact nd
 case bam => exact rfl
 case ban => exact (Or.inl rfl)
 case bao => exact (Zas Zb2 (Zas Za8 (Zas Za8 (Zas ZiN (pv 1) Zab) (Zas Zb2 (pv 2) Zab)) Zab) Zab)
 case' bae => refine' Zaf ?bap
 case' bap => refine' Zan ?baq
 case' baq => refine' Za9 ?bar
 case' bar => refine' Zcf ?bas ?bat
 case' bas => refine' ZbY (LN := ["cell"]) (FN := []) (fr := []) ?bau ?bav ?baw ?bax ?bay ?baz
 case bau => exact rfl
 case bav => exact (ZcZ (by rfl))
 case baw => exact (Zbh (K := K) rfl (ZaC (k_sl (K := K) rfl) (pv 0) ZaM (ZaJ Zab)))
 case' bax => intro cl C fp pins s H
 case bax => exact (ZaG (i := 0) (show ((["cell"] : List Str) ++ ([] : List Str)).Nodup by decide +kernel) rfl (Or.inl rfl))
 case' bay => intro cl C fp pins s H
 case bay => exact ZbH
 case' baz => intro cl C fp pins s H
 case baz => exact (Zas Zb2 (Zai ZjD (by rfl) B.b_abs bt_abs (Zaa (pv 0) Zad)) (Zas Zg0 Zab Zab))
 case bat => exact (Zah Zab (Zah Zab (Zaa (pv 1) (Zah Zab Zad))))
 walk_at "rd"
 refine ZgR hS fun p hp => ?_
 obtain ⟨ms, em, hm⟩ := Zjq ns none (some 63)
 rw [em]
 refine Zct (SqL.of Zac) ?_
 have s0 := Same.new (o := .lst (ms.map V.int)) hp
 generalize hH0 : upd H p (HO.lst (ms.map V.int)) = H0 at s0
 have hp0 : H0 p = some (.lst (ms.map V.int)) := by rw [<- hH0]; exact Zac
 refine Zdi (xs := ms.map V.int) (fun i σ H1 => Ex2 fun st c2 => An4 (σ = [some (.ref a), some (.int st), c2]) (H1 = H0) (0 <= st) (st < 2147483647)) ⟨11, none, rfl, rfl, by decide, by decide⟩ (fun i σ H1 _ z_ => by obtain ⟨_, _, _, e, _⟩ := z_; rw [e]; exact SqL.of hp0) ?_ ?_
 ·rintro i x σ H1 hx ⟨st, c2, rfl, rfl, h0, h1⟩
  obtain ⟨z, rfl, _⟩ := Zha hx
  walk_at "rd"
  refine rd_I (.inr ⟨by decide, by decide⟩) ?_
  walk_at "rd"
  refine rd_I (by decide) ?_
  walk_at "rd"
  refine rd_I (by decide) ?_
  walk_at "rd"
  exact ⟨_, _, rfl, rfl, Int.emod_nonneg _ (by decide), Int.emod_lt_of_pos _ (by decide)⟩
 ·rintro σ H1 ⟨st, c2, rfl, rfl, h0, h1⟩
  walk_at "rd"
  refine ZgR (s0.seq hS) fun p2 hp2 => ?_
  rw [em]
  refine Zct (SqL.of Zac) ?_
  have s2 := Same.new (o := .lst (ms.map V.int)) hp2
  generalize hH2 : upd H1 p2 (HO.lst (ms.map V.int)) = H2 at s2
  have hp2' : H2 p2 = some (.lst (ms.map V.int)) := by rw [<- hH2]; exact Zac
  refine ZcK (xs := ms.map V.int) (ZcM (by rw [List.length_map]; lia)) (fun i ys σ H3 => An3 (∃ x1, σ = [x1]) (H3 = H2) (∃ zs : List Int, ys = zs.map V.int /\ ∀ z ∈ zs, 0 <= z /\ z <= 10 ^ 60)) ⟨⟨none, rfl⟩, rfl, [], rfl, fun _ h => by cases h⟩ (fun i ys σ H3 _ z_ => by obtain ⟨_, e, _⟩ := z_; rw [e]; exact SqL.of hp2') ?_ ?_
  ·rintro i x ys σ H3 hx hle hlt ⟨⟨x1, rfl⟩, rfl, zs, rfl, hz⟩
   obtain ⟨z, rfl, _⟩ := Zha hx
   walk_at "rd"
   refine rd_I Zlq ?_
   refine rd_I (by decide +kernel) ?_
   rw [ten60]
   refine ⟨hlt, by simpa using hle, ⟨_, rfl⟩, rfl, zs ++ [_], by rw [List.map_append]; rfl, fun u hu => ?_⟩
   rcases List.mem_append.mp hu with hu | hu
   ·exact hz u hu
   ·obtain rfl := List.mem_singleton.mp hu
    lia
  ·rintro ys σ H3 hyl ⟨⟨x1, rfl⟩, rfl, zs, rfl, hz⟩ l hl
   walk_at "rd"
   walk_at "mk"; intro bb hbb
   have sA := Same.new (o := .lst (zs.map V.int)) hl
   have sB := Same.new (o := .lst [V.ref l, V.int 0, V.int 0, V.int st, V.int 0]) hbb
   have sall := ((s0.trans s2).trans sA).trans sB
   rw [List.length_map, List.length_map] at hyl
   exact k bb l _ (((s0.trans s2).trans sA).free hbb) sall ⟨zs, 0, 0, st, 0, Zac, Zlw Zac hbb, Nat.zero_le _, ⟨by decide, by decide⟩, ⟨h0, h1⟩, hz, by lia⟩
noncomputable def Zco : Sp := sp0 fun H Q => ∀ p H', H p = none -> H' p = some (.dK lettersKV) -> Same H H' -> Q (.ref p) H'
theorem sc__law_letters : FnScope [] [] (Zag Za5) := ⟨rfl, rfl, rfl, by decide +kernel, rfl, by decide +kernel, by decide +kernel⟩
theorem Zez (T__law_letters : TopFn K mg "_law_letters" Za5 []) : Callee P w K mg base "_law_letters" 1 [] Zco := by
 refine T__law_letters.ok0 sc__law_letters fun f cdv A outer s H Q E hr h => ?_
 have nd := sc__law_letters.nd
 refine ZaI [] rfl (t := tRet (Zlz ((lettersKV.map fun kv => (kV kv.1, kv.2)).map fun q => (tC q.1, tC q.2)))) ?hh ?_
 case hh =>
  refine Zaf ?_
  refine Zan ?_
  refine ZiI ?_ ?_ ?_ ?_ ?_
  rotate_left
  ·rfl
  ·rfl
  ·exact List.cons_ne_nil _ _
  ·exact Nat.le_of_ble_eq_true rfl
  simp only [lettersKV, lettersL, List.map_cons, List.map_nil, kV]
  repeat (refine ZdU ?_ ?_ ?_; exact Zaw; exact Zaw)
  exact ZiE
 refine Zk8 fun p hp => ?_
 refine ZgE (lettersKV.map fun kv => (kV kv.1, kv.2)) ?_
 refine ⟨Zac, lettersKV, rfl, by decide, ?_⟩
 rw [Ze1, ZfZ]
 exact h p _ hp Zac (Same.new hp)
inductive Pr_part (x1 x2 x3 x4 x5 : V) (H : Hp) (Q : VK) : Prop
 | mk (b l c boxes many sp xs) (_ : x1 = .ref b) (_ : x2 = .str c) (_ : x3 = .int boxes) (_ : x4 = .int many) (_ : x5 = .ref sp) (_ : 1 <= boxes /\ boxes <= 1000) (_ : 1 <= many /\ many <= 1000) (_ : H sp = some (.lst xs)) (_ : 0 < xs.length /\ xs.length <= 1000) (_ : sp ≠ b) (_ : BagAt H b l) (_ : ∀ n H', ZjL boxes many xs.length c n -> BagAt H' b l -> BSame b H H' -> Q (.int n) H') : Pr_part x1 x2 x3 x4 x5 H Q
noncomputable def Zib : Sp := sp5 (Pr_part)
theorem sc__law_part : FnScope ["bag", "letter", "boxes", "many", "signs"] ["bag", "letter", "boxes", "many", "signs"] (Zag ZbB) := ⟨rfl, rfl, rfl, by decide +kernel, rfl, by decide +kernel, by decide +kernel⟩
theorem Zgy (B : Blt mg) (T__law_part : TopFn K mg "_law_part" ZbB ["bag", "letter", "boxes", "many", "signs"]) (Zak : Callee P w K mg base "_law_draw" 1 ["bag", "many"] ZcC) (ZbO : Callee P w K mg base "_law_number" 2 ["bag"] Zc9) :
  Callee P w K mg base "_law_part" 3 ["bag", "letter", "boxes", "many", "signs"] Zib := by
 refine T__law_part.ok5 sc__law_part fun f cdv A outer s H v1 v2 v3 v4 v5 Q E hr h => ?_
 have nd := sc__law_part.nd
 obtain ⟨b, l, c, boxes, many, sp, xs, rfl, rfl, rfl, rfl, rfl, ⟨b0, b1⟩, ⟨m0, m1⟩, hsp, ⟨x0, x1⟩, nsp, Bg, k⟩ := h
 refine' ZaI [some (.ref b), some (.str c), some (.int boxes), some (.int many), some (.ref sp)] rfl ?hb ?hg
 case' hb => refine' Zae ?bab ?bac
 case' bab => refine' ZaF ?bad ?bae ?baf
 case bad => exact (Zal Za1 (pv 1) Zaw (Zar _))
 case bae => exact (Zaf (Zan (ZaK Zak (hr.mono (by first | decide | lia)) (by rfl) (Zaa (pv 0) (Zaa (pv 2) Zad)))))
 case baf => exact Zam
 case' bac => refine' Zae ?bag ?bah
 case' bag => refine' ZaF ?bai ?baj ?bak
 case bai => exact (Zal Za1 (pv 1) Zaw (Zar _))
 case baj => exact (Zaf (Zan (ZaK Zak (hr.mono (by first | decide | lia)) (by rfl) (Zaa (pv 0) (Zaa (pv 3) Zad)))))
 case bak => exact Zam
 case' bah => refine' Zae ?bal ?bam
 case' bal => refine' ZaF ?ban ?bao ?bap
 case ban => exact (Zal Za1 (pv 1) Zaw (Zar _))
 case' bao => refine' Zaf ?baq
 case' baq => refine' Zan ?bar
 case' bar => refine' ZaK ?bas ?bat ?bau ?bav
 case bas => exact Zak
 case bat => exact (hr.mono (by first | decide | lia))
 case bau => exact (by rfl)
 case bav => exact (Zaa (pv 0) (ZaB (Zai (Zbt (K := K) rfl) (by rfl) B.b_len ZaW (Zaa (pv 4) Zad)) Zad))
 case bap => exact Zam
 case' bam => refine' Zae ?baw ?bax
 case' baw => refine' ZaF ?bay ?baz ?bba
 case bay => exact (Zal Za1 (pv 1) Zaw (Zar _))
 case baz => exact (Zaf (Zan (Zas ZcI (ZaK Zak (hr.mono (by first | decide | lia)) (by rfl) (Zaa (pv 0) (Zah Zab Zad))) Zab)))
 case bba => exact Zam
 case bax => exact (Zaf (Zan (ZaK ZbO (hr.mono (by first | decide | lia)) (by rfl) (Zaa (pv 0) Zad))))
 walk_at "rd"
 refine Zav (fun e => ?_) (fun np => ?_)
 ·walk_at "rd"
  refine use2 ⟨b, l, boxes, rfl, rfl, ⟨by lia, by lia⟩, Bg, fun n H' n0 n1 B' b' => ?_⟩
  subst e
  exact k n H' ⟨fun _ => ⟨n0, n1⟩, fun z => absurd z (by decide), fun z => absurd z (by decide), fun z => absurd z (by decide), by lia⟩ B' b'
 ·walk_at "rd"
  refine Zav (fun e => ?_) (fun nt => ?_)
  ·walk_at "rd"
   refine use2 ⟨b, l, many, rfl, rfl, ⟨by lia, by lia⟩, Bg, fun n H' n0 n1 B' b' => ?_⟩
   subst e
   exact k n H' ⟨fun z => absurd z (by decide), fun _ => ⟨n0, n1⟩, fun z => absurd z (by decide), fun z => absurd z (by decide), by lia⟩ B' b'
  ·walk_at "rd"
   refine Zav (fun e => ?_) (fun nf => ?_)
   ·walk_at "rd"
    refine ZaO (SqL.of hsp) ?_
    walk_at "rd"
    refine use2 ⟨b, l, xs.length, rfl, rfl, ⟨by lia, by lia⟩, Bg, fun n H' n0 n1 B' b' => ?_⟩
    subst e
    exact k n H' ⟨fun z => absurd z (by decide), fun z => absurd z (by decide), fun _ => ⟨n0, n1⟩, fun z => absurd z (by decide), by lia⟩ B' b'
   ·walk_at "rd"
    refine Zav (fun e => ?_) (fun nc => ?_)
    ·walk_at "rd"
     refine use2 ⟨b, l, 199, rfl, rfl, ⟨by decide, by decide⟩, Bg, fun n H' n0 n1 B' b' => ?_⟩
     subst e
     walk_at "rd"
     exact k _ H' ⟨fun z => absurd z (by decide), fun z => absurd z (by decide), fun z => absurd z (by decide), fun _ => by lia, by lia⟩ B' b'
    ·walk_at "rd"
     refine use1 ⟨b, l, rfl, Bg, fun n H' n0 B' b' => ?_⟩
     exact k n H' ⟨fun z => absurd z np, fun z => absurd z nt, fun z => absurd z nf, fun z => absurd z nc, n0⟩ B' b'
inductive Pr_row (x1 x2 x3 x4 x5 : V) (H : Hp) (Q : VK) : Prop
 | mk (b l wd ls boxes many sp xs sg) (_ : x1 = .ref b) (_ : x2 = .str wd) (_ : x3 = .int boxes) (_ : x4 = .int many) (_ : x5 = .ref sp) (_ : (wd, ls) ∈ lettersL) (_ : 1 <= boxes /\ boxes <= 1000) (_ : 1 <= many /\ many <= 1000) (_ : H sp = some (.lst xs)) (_ : Reps H (sg.map Zgc) xs) (_ : SgOk sg) (_ : sp ≠ b) (_ : BagAt H b l) (_ : ∀ ps v H', RowG sg boxes many wd ls ps -> Rep H' (rowD (wd, ps)) v -> BagAt H' b l -> BSame b H H' -> Q v H') : Pr_row x1 x2 x3 x4 x5 H Q
noncomputable def Zk1 : Sp := sp5 (Pr_row)
theorem sc__law_row : FnScope ["bag", "word", "boxes", "many", "signs", "row", "letter", "args"] ["bag", "word", "boxes", "many", "signs"] (Zag ZbM) := ⟨rfl, rfl, rfl, by decide +kernel, rfl, by decide +kernel, by decide +kernel⟩
theorem ZhI (B : Blt mg) (T__law_row : TopFn K mg "_law_row" ZbM ["bag", "word", "boxes", "many", "signs"]) (Zak : Callee P w K mg base "_law_draw" 1 ["bag", "many"] ZcC) (ZaN : Callee P w K mg base "_law_letters" 1 [] Zco)
  (ZdB : Callee P w K mg base "_law_part" 3 ["bag", "letter", "boxes", "many", "signs"] Zib) : Callee P w K mg base "_law_row" 4 ["bag", "word", "boxes", "many", "signs"] Zk1 := by
 refine T__law_row.ok5 sc__law_row fun f cdv A outer s H v1 v2 v3 v4 v5 Q E hr h => ?_
 have nd := sc__law_row.nd
 have hu := hr.units
 have hu1 := Zjf hr
 obtain ⟨b, l, wd, ls, boxes, many, sp, xs, sg, rfl, rfl, rfl, rfl, rfl, tab, ⟨b0, b1⟩, ⟨m0, m1⟩, hsp, rsg, SG, nsp, Bg, k⟩ := h
 refine' ZaI [some (.ref b), some (.str wd), some (.int boxes), some (.int many), some (.ref sp), none, none, none] rfl ?hb ?hg
 case' hb => refine' Zae ?bab ?bac
 case bab => exact (Zea (i := 5) nd rfl (Or.inl rfl) (Za0 (Zaa (pv 1) Zad)))
 case' bac => refine' Zae ?bad ?bae
 case' bad => refine' ZcA ?baf ?bag ?bah ?bai ?baj
 case baf => exact PassesOwn.never
 case bag => exact rfl
 case bah => exact (Zg7 (K := K) rfl (ZiJ hu1 (ZgV ZaN (hr.mono (by first | decide | lia)) (by rfl)) (pv 1) (fun _ _ => rfl)))
 case bai => exact (ZaG (i := 6) nd rfl (Or.inl rfl))
 case' baj => refine' Zaf ?bak
 case' bak => refine' ZaF ?bal ?bam ?ban
 case bal => exact (Zal Za1 (pv 6) Zaw (Zar _))
 case' bam => refine' Zae ?bao ?bap
 case' bao => refine' Zf9 (i := 7) (LN := ["k"]) (FN := ["bag", "boxes"]) (fr := [0, 2]) ?baq ?bar ?bas ?bat ?bau ?bav ?baw ?bax ?bay
 case baq => exact rfl
 case bar => exact nd
 case bas => exact rfl
 case bat => exact rfl
 case bau => exact (ZcZ (by rfl))
 case' bav => refine' ZbQ ?baz ?bba ?bbb
 case baz => exact rfl
 case bba => exact B.b_range
 case' bbb => refine' Zau ?bbc ?bbd
 case' bbc => refine' Zao ?bbe ?bbf ?bbg ?bbh
 case bbe => exact (k_ix (K := K) rfl)
 case bbf => exact (Zao (k_ix (K := K) rfl) (pv 4) (Zao (k_ix (K := K) rfl) (pv 5) Zab (fun _ _ => rfl)) (fun _ _ => rfl))
 case bbg => exact Zab
 case bbh => exact (fun _ _ => rfl)
 case bbd => exact Zad
 case' baw => intro cl C fp pins s H
 case baw => exact (ZaG (i := 0) (show ((["k"] : List Str) ++ (["bag", "boxes"] : List Str)).Nodup by decide +kernel) rfl (Or.inl rfl))
 case' bax => intro cl C fp pins s H
 case bax => exact ZbH
 case' bay => intro cl C fp pins s H
 case bay => exact (ZaK Zak (hr.mono (by first | decide | lia)) (by rfl) (Zaa (pv 1) (Zaa (pv 2) Zad)))
 case' bap => refine' Zaf ?bbi
 case' bbi => refine' Zbr (i := 5) ?bbj ?bbk ?bbl ?bbm
 case bbj => exact nd
 case bbk => exact rfl
 case bbl => exact (Or.inl rfl)
 case' bbm => refine' Zas ?bbn ?bbo ?bbp
 case bbn => exact (Zli (K := K) rfl)
 case bbo => exact (pv 5)
 case bbp => exact (Za0 (ZaB (ZbR (Zgi (K := K) rfl) (by rfl) B.b_tuple ZbX (Zaa (pv 7) Zad)) Zad))
 case' ban => refine' Zaf ?bbq
 case' bbq => refine' Zbr (i := 5) ?bbr ?bbs ?bbt ?bbu
 case bbr => exact nd
 case bbs => exact rfl
 case bbt => exact (Or.inl rfl)
 case' bbu => refine' Zas ?bbv ?bbw ?bbx
 case bbv => exact (Zli (K := K) rfl)
 case bbw => exact (pv 5)
 case' bbx => refine' Za0 ?bby
 case' bby => refine' ZaB ?bbz ?bca
 case' bbz => refine' ZaK ?bcb ?bcc ?bcd ?bce
 case bcb => exact ZdB
 case bcc => exact (hr.mono (by first | decide | lia))
 case bcd => exact (by rfl)
 case bce => exact (Zaa (pv 0) (Zaa (pv 6) (Zaa (pv 2) (Zaa (pv 3) (Zaa (pv 4) Zad)))))
 case bca => exact Zad
 case bae => exact (Zaf (Zan (pv 5)))
 walk_at "rd"
 walk_at "mk"; intro p0 hp0
 have s0 := Same.new (o := .tup [V.str wd]) hp0
 walk_at "rd"
 refine Zir ?_
 walk_at "rd"
 refine use0 (b := fun H Q => ∀ p H', H p = none -> H' p = some (.dK lettersKV) -> Same H H' -> Q (.ref p) H') fun pd H1 hpd hd s1 => ?_
 walk_at "rd"
 refine ⟨pd, _, rfl, (Zgf tab) ▸ DGet.k (k := Sum.inr wd) hd, ?_⟩
 refine ⟨ls, rfl, Zhx _ tab, ?_⟩
 have xlen := rsg.length
 rw [List.length_map] at xlen
 have hsp1 := (s0.trans s1) _ _ hsp
 refine ZmH (fun i σ Hx => Ex5 fun rt ps vs x6 x7 => An7 (σ = [some (.ref b), some (.str wd), some (.int boxes), some (.int many), some (.ref sp), some (.ref rt), x6, x7]) (Hx rt = some (.tup (V.str wd :: vs))) (Reps Hx ps vs) (ps.length = i) (BagAt Hx b l) (BSame b H Hx) (∀ j c, j < i -> ls.cps[j]? = some c -> ∃ d, ps[j]? = some d /\ ZhM sg boxes many ps ⟨#[c]⟩ d))
  ⟨p0, [], [], none, none, rfl, s1 _ _ Zac, ZaE, rfl, Bg.mono (s0.trans s1), (BSame.refl b H).to (s0.trans s1), fun j c hj => absurd hj (Nat.not_lt_zero _)⟩ ?_ ?_
 ·rintro i c σ Hx hc ⟨rt, ps, vs, x6, x7, rfl, hrt, rps, hpl, Bx, bx, hps⟩
  have hspx : Hx sp = some (.lst xs) := bx _ _ nsp hsp
  have hvl := rps.length
  have more : ∀ (d : D) (u : V) (H5 : Hp) (t1 : Addr), Rep H5 d u -> (∀ c', c' = (⟨#[c]⟩ : Str) -> ZhM sg boxes many (ps ++ [d]) c' d) -> BagAt H5 b l -> BSame b H H5 -> H5 rt = some (.tup (V.str wd :: vs)) -> Reps H5 ps vs -> H5 t1 = none ->
    ∃ rt' ps' vs', (upd H5 t1 (.tup (V.str wd :: vs ++ [u]))) t1 = some (.tup (V.str wd :: vs')) /\ rt' = t1 /\ Reps (upd H5 t1 (.tup (V.str wd :: vs ++ [u]))) ps' vs' /\ ps'.length = i + 1 /\ BagAt (upd H5 t1 (.tup (V.str wd :: vs ++ [u]))) b l /\ BSame b H (upd H5 t1 (.tup (V.str wd :: vs ++ [u]))) /\
    ∀ j c, j < i + 1 -> ls.cps[j]? = some c -> ∃ d, ps'[j]? = some d /\ ZhM sg boxes many ps' ⟨#[c]⟩ d := by
   intro d u H5 t1 rd hd B5 b5 h5 r5 ht1
   have s5 := Same.new (o := .tup (V.str wd :: vs ++ [u])) ht1
   refine ⟨t1, ps ++ [d], vs ++ [u], Zac, rfl, Reps.append (r5.mono s5.ts) (Zap (rd.mono s5.ts) ZaE), by simp [hpl], B5.mono s5, b5.to s5, fun j c' hj hc' => ?_⟩
   rcases Nat.lt_or_ge j i with q | q
   ·obtain ⟨d', e1, e2⟩ := hps j c' q hc'
    refine ⟨d', by rw [List.getElem?_append_left (by lia)]; exact e1, ?_⟩
    rcases e2 with e2 | ⟨e2, args, f', tk, e3, e4⟩
    ·exact .inl e2
    ·have hl1 : 1 < ps.length := (List.getElem?_eq_some_iff.mp e3).1
     exact .inr ⟨e2, args, f', tk, by rw [List.getElem?_append_left hl1]; exact e3, e4⟩
   ·have : j = i := by lia
    subst this
    rw [hc] at hc'
    cases hc'
    exact ⟨d, by rw [List.getElem?_append_right (by lia), hpl]; simp, hd _ rfl⟩
  walk_at "rd"
  refine Zav (fun hq => ?_) (fun hq => ?_)
  ·obtain ⟨hi2, c1, hc1, hf⟩ := q_at tab hc hq
   obtain ⟨d1, ed1, g1⟩ := hps 1 c1 (by lia) hc1
   have g3 : ∃ n, d1 = .int n /\ ZjL boxes many sg.length ⟨#[c1]⟩ n := by
    rcases g1 with g1 | g1
    ·exact g1.2
    ·rw [hf] at g1
     exact absurd g1.1 (by decide)
   clear g1
   obtain ⟨n1, rfl, g1⟩ := g3
   have g2 := g1.2.2.1 hf
   obtain ⟨n1, rfl⟩ := Int.eq_ofNat_of_zero_le g2.1
   obtain ⟨u1, eu1, ru1⟩ := rps.get ed1
   obtain rfl := ZaL ru1
   have hn1 : n1 < sg.length := by lia
   have esg : sg[n1]? = some sg[n1] := List.getElem?_eq_getElem hn1
   have rsx := rsg.mono (bx.ts Bg)
   obtain ⟨u2, eu2, ru2⟩ := rsx.get (i := n1) (d := Zgc sg[n1]) (by rw [List.getElem?_map, esg]; rfl)
   have gk := SG.all _ (List.getElem_mem hn1)
   walk_at "rd"
   refine Za6 hrt (v := .int n1) (ZaV (n := 2) rfl (by simpa using eu1)) ?_
   refine Zaj hspx (ZaV (n := n1) rfl eu2) ?_
   walk_at "rd"
   refine ZgS (n := 0) ru2 rfl rfl ?_
   walk_at "rd"
   refine Zdh (by lia) (by lia) ?_
   refine Zfc (ZcM (by lia)) (fun j ys σ Hy => (∃ x1, σ = [x1, some (.ref b), some (.int boxes)]) /\ ∃ zs : List Int, An5 (ys = zs.map V.int) (zs.length = j) (∀ z ∈ zs, 0 <= z /\ z < boxes) (BagAt Hy b l) (BSame b Hx Hy)) ⟨⟨none, rfl⟩, [], rfl, rfl, by simp, Bx, BSame.refl _ _⟩ ?_ ?_
   ·rintro j ys σ Hy hj hle hlt ⟨⟨x1, rfl⟩, zs, rfl, hz, hb, By, bY⟩
    walk_at "rd"
    refine use2 ⟨b, l, boxes, rfl, rfl, ⟨by lia, by lia⟩, By, fun r H2 g0 g1' B2 b2 => ?_⟩
    refine ⟨hlt, by simpa using hle, ⟨_, rfl⟩, zs ++ [r], by simp, by simp [hz], ?_, B2, bY.trans b2⟩
    intro z hz'
    rcases List.mem_append.mp hz' with hz' | hz'
    ·exact hb z hz'
    ·obtain rfl := List.mem_singleton.mp hz'
     exact ⟨g0, g1'⟩
   ·rintro ys σ Hy hyl ⟨⟨x1, rfl⟩, zs, rfl, hz, hb, By, bY⟩ pa hpa
    have sa := Same.new (o := .lst (zs.map V.int)) hpa
    walk_at "rd"
    refine Zf3 (SqL.of Zac) fun t2 ht2 => ?_
    have sb := Same.new (o := .tup (zs.map V.int)) ht2
    walk_at "mk"; intro t3 ht3
    have sc := Same.new (o := .tup [V.ref t2]) ht3
    have hb' : ∀ xs, Hx rt = some xs -> rt ≠ b := fun xs _ => by
     obtain ⟨zs', hb2⟩ := Bx.lst
     exact Zmq hrt hb2 (by intro z; cases z)
    have nrt := hb' _ hrt
    have h5 := ((sa.trans sb).trans sc) _ _ (bY _ _ nrt hrt)
    refine ⟨rt, t3, _, _, rfl, rfl, SqT.of h5, SqT.of Zac, by simp, ZcM (by simp; have : ls.cps.size <= 3 := le3 tab; have := (Array.getElem?_eq_some_iff.mp hc).1; lia), fun z => absurd z (by simp), fun _ t4 ht4 => ?_⟩
    walk_at "rd"
    obtain ⟨rt', ps', vs', q1, rfl, q2, q3, q4, q5, q6⟩ := more (.tup (zs.map D.int)) (.ref t2) _ t4 (ZbP (sc _ _ Zac) (ZcF zs)) (fun c' ec => .inr ⟨by rw [ec]; exact hq, zs, n1, sg[n1], by rw [List.getElem?_append_left (by lia)]; exact ed1, esg, rfl, by lia, hb⟩)
     (((By.mono sa).mono sb).mono sc) ((bx.trans bY).to ((sa.trans sb).trans sc)) h5 ((rps.mono (bY.ts Bx)).mono ((sa.trans sb).trans sc).ts) ht4
    exact ⟨_, ps', vs', _, _, rfl, q1, q2, q3, q4, q5, q6⟩
  ·walk_at "rd"
   refine use5 ⟨b, l, ⟨#[c]⟩, boxes, many, sp, xs, rfl, rfl, rfl, rfl, rfl, ⟨b0, b1⟩, ⟨m0, m1⟩, hspx, ⟨by have := SG.pos; lia, by have := SG.few; lia⟩, nsp, Bx, fun n H2 hn B2 b2 => ?_⟩
   walk_at "rd"
   walk_at "mk"; intro t3 ht3
   have sc := Same.new (o := .tup [V.int n]) ht3
   obtain ⟨zs', hb2⟩ := Bx.lst
   have nrt := Zmq hrt hb2 (by intro z; cases z)
   have h5 := sc _ _ (b2 _ _ nrt hrt)
   refine ⟨rt, t3, _, _, rfl, rfl, SqT.of h5, SqT.of Zac, by simp, ZcM (by simp; have : ls.cps.size <= 3 := le3 tab; have := (Array.getElem?_eq_some_iff.mp hc).1; lia), fun z => absurd z (by simp), fun _ t4 ht4 => ?_⟩
   walk_at "rd"
   rw [<- xlen] at hn
   obtain ⟨rt', ps', vs', q1, rfl, q2, q3, q4, q5, q6⟩ := more (.int n) (.int n) _ t4 Zbq (fun c' ec => .inl ⟨by rw [ec]; exact hq, n, rfl, by rw [ec]; exact hn⟩) (B2.mono sc) ((bx.trans b2).to sc) h5 ((rps.mono (b2.ts Bx)).mono sc.ts) ht4
   exact ⟨_, ps', vs', _, _, rfl, q1, q2, q3, q4, q5, q6⟩
 ·rintro σ Hx ⟨rt, ps, vs, x6, x7, rfl, hrt, rps, hpl, Bx, bx, hps⟩
  walk_at "rd"
  exact k ps _ _ ⟨tab, hpl, fun i c e => hps i c (Array.getElem?_eq_some_iff.mp e).1 e⟩ (ZbP hrt (Zap (by rw [Rep]) rps)) Bx bx
inductive Pr_rows (x1 x2 x3 x4 : V) (H : Hp) (Q : VK) : Prop
 | mk (b l boxes many sp xs sg) (_ : x1 = .ref b) (_ : x2 = .int boxes) (_ : x3 = .int many) (_ : x4 = .ref sp) (_ : 1 <= boxes /\ boxes <= 8) (_ : 1 <= many /\ many <= 30) (_ : H sp = some (.lst xs)) (_ : Reps H (sg.map Zgc) xs) (_ : SgOk sg) (_ : sp ≠ b) (_ : BagAt H b l) (_ : ∀ rs q ys H', RowsOk sg boxes many rs -> H q = none -> q ≠ b -> q ≠ l -> H' q = some (.lst ys) -> Reps H' (rs.map rowD) ys -> BagAt H' b l -> BSame b H H' -> Q (.ref q) H') : Pr_rows x1 x2 x3 x4 H Q
noncomputable def Zh9 : Sp := sp4 (Pr_rows)
theorem sc__law_rows : FnScope ["bag", "boxes", "many", "signs", "rows", "k", "word"] ["bag", "boxes", "many", "signs"] (Zag Zbz) := ⟨rfl, rfl, rfl, by decide +kernel, rfl, by decide +kernel, by decide +kernel⟩
theorem Zgw (B : Blt mg) (T__law_rows : TopFn K mg "_law_rows" Zbz ["bag", "boxes", "many", "signs"]) (Zak : Callee P w K mg base "_law_draw" 1 ["bag", "many"] ZcC) (ZaN : Callee P w K mg base "_law_letters" 1 [] Zco)
  (Zdk : Callee P w K mg base "_law_row" 4 ["bag", "word", "boxes", "many", "signs"] Zk1) : Callee P w K mg base "_law_rows" 5 ["bag", "boxes", "many", "signs"] Zh9 := by
 refine T__law_rows.ok4 sc__law_rows fun f cdv A outer s H v1 v2 v3 v4 Q E hr h => ?_
 have nd := sc__law_rows.nd
 obtain ⟨b, l, boxes, many, sp, xs, sg, rfl, rfl, rfl, rfl, ⟨b0, b1⟩, ⟨m0, m1⟩, hsp, rsg, SG, nsp, Bg, k⟩ := h
 refine' ZaI [some (.ref b), some (.int boxes), some (.int many), some (.ref sp), none, none, none] rfl ?hb ?hg
 case' hb => refine' Zae ?bab ?bac
 case bab => exact (Zdp (i := 4) nd rfl (Or.inl rfl) (Za9 Zad))
 case' bac => refine' Zae ?bad ?bae
 case' bad => refine' ZcA ?baf ?bag ?bah ?bai ?baj
 case baf => exact PassesOwn.never
 case bag => exact rfl
 case bah => exact (ZbQ rfl B.b_range (Zbs (Zas ZcI (pv 2) Zab) Zad))
 case bai => exact (ZaG (i := 5) nd rfl (Or.inl rfl))
 case' baj => refine' Zae ?bak ?bal
 case' bak => refine' Zb7 (i := 6) ?bam ?ban ?bao ?bap
 case bam => exact nd
 case ban => exact rfl
 case bao => exact (Or.inl rfl)
 case' bap => refine' Zao ?baq ?bar ?bas ?bat
 case baq => exact (k_ix (K := K) rfl)
 case bar => exact (ZbR (ZeN rfl) (by rfl) B.b_list ZcY (ZaB (ZgV ZaN (hr.mono (by first | decide | lia)) (by rfl)) Zad))
 case bas => exact (ZaK Zak (hr.mono (by first | decide | lia)) (by rfl) (Zaa (pv 0) (Zah Zab Zad)))
 case bat => exact (fun _ _ => rfl)
 case' bal => refine' Zaf ?bau
 case' bau => refine' Zdq ?bav
 case' bav => refine' k_bm (K := K) ?baw ?bax ?bay ?baz ?bba ?bbb ?bbc
 case baw => exact rfl
 case bax => exact PySem.F.plainAttrs_list
 case bay => exact PySem.F.slot_list_append
 case baz => exact PySem.F.type_list_append
 case bba => exact Zcq
 case bbb => exact (pv 4)
 case' bbc => refine' ZaB ?bbd ?bbe
 case' bbd => refine' ZaK ?bbf ?bbg ?bbh ?bbi
 case bbf => exact Zdk
 case bbg => exact (hr.mono (by first | decide | lia))
 case bbh => exact (by rfl)
 case bbi => exact (Zaa (pv 0) (Zaa (pv 6) (Zaa (pv 1) (Zaa (pv 2) (Zaa (pv 3) Zad)))))
 case bbe => exact Zad
 case' bae => refine' Zae ?bbj ?bbk
 case' bbj => refine' Zdq ?bbl
 case' bbl => refine' k_bm (K := K) ?bbm ?bbn ?bbo ?bbp ?bbq ?bbr ?bbs
 case bbm => exact rfl
 case bbn => exact PySem.F.plainAttrs_list
 case bbo => exact PySem.F.slot_list_append
 case bbp => exact PySem.F.type_list_append
 case bbq => exact Zcq
 case bbr => exact (pv 4)
 case' bbs => refine' ZaB ?bbt ?bbu
 case' bbt => refine' ZaK ?bbv ?bbw ?bbx ?bby
 case bbv => exact Zdk
 case bbw => exact (hr.mono (by first | decide | lia))
 case bbx => exact (by rfl)
 case' bby => refine' Zaa ?bbz ?bca
 case bbz => exact (pv 0)
 case' bca => refine' Zau ?bcb ?bcc
 case' bcb => refine' Zao ?bcd ?bce ?bcf ?bcg
 case bcd => exact (k_ix (K := K) rfl)
 case bce => exact (Za9 (Zah Zaw (Zah Zaw Zad)))
 case bcf => exact (ZaK Zak (hr.mono (by first | decide | lia)) (by rfl) (Zaa (pv 0) (Zah Zab Zad)))
 case bcg => exact (fun _ _ => rfl)
 case bcc => exact (Zaa (pv 1) (Zaa (pv 2) (Zaa (pv 3) Zad)))
 case bbu => exact Zad
 case bbk => exact (Zaf (Zan (pv 4)))
 walk_at "rd"
 walk_at "mk"; intro q hq
 have s0 := Same.new (o := .lst []) hq
 have nqb : q ≠ b := fun z => (Bg.ne hq).1 z.symm
 have nql : q ≠ l := fun z => (Bg.ne hq).2 z.symm
 have nqs : sp ≠ q := Zba hsp hq
 walk_at "rd"
 refine Zdh (by lia) (by lia) ?_
 refine Zcu (n := (many - 1).toNat) (fun i σ Hx => Ex4 fun rs ys x5 x6 => An7 (σ = [some (.ref b), some (.int boxes), some (.int many), some (.ref sp), some (.ref q), x5, x6]) (Hx q = some (.lst ys)) (Reps Hx (rs.map rowD) ys) (rs.length = i) (∀ r ∈ rs, ZkW sg boxes many r) (BagAt Hx b l) (BSame b H Hx))
  ⟨[], [], none, none, rfl, Zac, ZaE, rfl, by simp, Bg.mono s0, (BSame.refl b H).to s0⟩ ?_ ?_
 ·rintro i σ Hx hi ⟨rs, ys, x5, x6, rfl, hqx, rr, hl, ok, Bx, bx⟩
  have hyl := rr.length
  rw [List.length_map] at hyl
  walk_at "rd"
  refine use0 (b := fun H Q => ∀ p H', H p = none -> H' p = some (.dK lettersKV) -> Same H H' -> Q (.ref p) H') fun pd H1 hpd hd s1 => ?_
  walk_at "rd"
  refine ⟨pd, lettersKV, rfl, hd, fun pl hpl => ?_⟩
  have s2 := Same.new (o := .lst (lettersKV.map fun q => kV q.1)) hpl
  have B2 := (Bx.mono s1).mono s2
  walk_at "rd"
  refine use2 ⟨b, l, 12, rfl, rfl, ⟨by decide, by decide⟩, B2, fun r H3 r0 r1 B3 b3 => ?_⟩
  have npl : pl ≠ b := fun z => ((Bx.mono s1).ne hpl).1 z.symm
  obtain ⟨r, rfl⟩ := Int.eq_ofNat_of_zero_le r0
  have hr12 : r < lettersL.length := by
   have : lettersL.length = 12 := rfl
   lia
  have ew : (lettersKV.map fun q => kV q.1)[r]? = some (V.str lettersL[r].1) := by
   unfold lettersKV
   rw [List.map_map, List.getElem?_map, List.getElem?_eq_getElem hr12]
   rfl
  refine Zaj (b3 _ _ npl Zac) (ZaV (n := r) rfl ew) ?_
  walk_at "rd"
  have hqx3 : H3 q = some (.lst ys) := b3 _ _ nqb ((s1.trans s2) _ _ hqx)
  refine ⟨.inl ⟨rfl, ys, SqL.of hqx3⟩, ?_⟩
  walk_at "rd"
  have bb : BSame b H H3 := (bx.to (s1.trans s2)).trans b3
  refine use5 ⟨b, l, lettersL[r].1, lettersL[r].2, boxes, many, sp, xs, sg, rfl, rfl, rfl, rfl, rfl, List.getElem_mem hr12, ⟨b0, by lia⟩, ⟨m0, by lia⟩, bb _ _ nsp hsp, rsg.mono (bb.ts Bg), SG, nsp, B3, fun ps v H4 g4 r4 B4 b4 => ?_⟩
  walk_at "rd"
  have hq4 := b4 _ _ nqb hqx3
  refine Zcp hq4 (Nat.lt_of_le_of_lt (show ys.length <= 1000 by lia) (by decide)) ?_
  walk_at "rd"
  have tw : TSame H4 (upd H4 q (.lst (ys ++ [v]))) := TSame.wr (fun zs z => by rw [hq4] at z; cases z)
  refine ⟨rs ++ [(lettersL[r].1, ps)], ys ++ [v], _, _, rfl, Zac, ?_, by simp [hl], ?_, B4.wr (Ne.symm nqb) (Ne.symm nql), (bb.trans b4).wrNew hq⟩
  ·rw [List.map_append]
   exact Reps.append ((((rr.mono (s1.trans s2).ts).mono (b3.ts B2)).mono (b4.ts B3)).mono tw) (Zap (r4.mono tw) ZaE)
  ·intro x hx
   rcases List.mem_append.mp hx with hx | hx
   ·exact ok x hx
   ·obtain rfl := List.mem_singleton.mp hx
    exact ⟨_, g4⟩
 ·rintro σ Hx ⟨rs, ys, x5, x6, rfl, hqx, rr, hl, ok, Bx, bx⟩
  have hyl := rr.length
  rw [List.length_map] at hyl
  walk_at "rd"
  refine ⟨.inl ⟨rfl, ys, SqL.of hqx⟩, ?_⟩
  walk_at "rd"
  walk_at "mk"; intro pl hpl
  have s2 := Same.new (o := .lst [V.str "back", V.str "jump"]) hpl
  have B2 := Bx.mono s2
  walk_at "rd"
  refine use2 ⟨b, l, 2, rfl, rfl, ⟨by decide, by decide⟩, B2, fun r H3 r0 r1 B3 b3 => ?_⟩
  have npl : pl ≠ b := fun z => (Bx.ne hpl).1 z.symm
  obtain ⟨wd, ls, tab, hw, ew⟩ : ∃ wd ls, (wd, ls) ∈ lettersL /\ (wd = "back" \/ wd = "jump") /\ atI [V.str "back", V.str "jump"] r = some (.str wd) := by
   rcases (show r = 0 \/ r = 1 by lia) with rfl | rfl
   ·exact ⟨"back", "p", by decide, .inl rfl, rfl⟩
   ·exact ⟨"jump", "t", by decide, .inr rfl, rfl⟩
  refine Zaj (b3 _ _ npl Zac) ew ?_
  walk_at "rd"
  have bb : BSame b H H3 := (bx.to s2).trans b3
  have hqx3 : H3 q = some (.lst ys) := b3 _ _ nqb (s2 _ _ hqx)
  refine use5 ⟨b, l, wd, ls, boxes, many, sp, xs, sg, rfl, rfl, rfl, rfl, rfl, tab, ⟨b0, by lia⟩, ⟨m0, by lia⟩, bb _ _ nsp hsp, rsg.mono (bb.ts Bg), SG, nsp, B3, fun ps v H4 g4 r4 B4 b4 => ?_⟩
  walk_at "rd"
  have hq4 := b4 _ _ nqb hqx3
  refine Zcp hq4 (Nat.lt_of_le_of_lt (show ys.length <= 1000 by lia) (by decide)) ?_
  walk_at "rd"
  have tw : TSame H4 (upd H4 q (.lst (ys ++ [v]))) := TSame.wr (fun zs z => by rw [hq4] at z; cases z)
  refine k (rs ++ [(wd, ps)]) q (ys ++ [v]) _ ⟨by simp; lia, ?_, ⟨(wd, ps), by simp, hw⟩⟩ hq nqb nql Zac ?_ (B4.wr (Ne.symm nqb) (Ne.symm nql)) ((bb.trans b4).wrNew hq)
  ·intro x hx
   rcases List.mem_append.mp hx with hx | hx
   ·exact ok x hx
   ·obtain rfl := List.mem_singleton.mp hx
    exact ⟨_, g4⟩
  ·rw [List.map_append]
   exact Reps.append ((((rr.mono s2.ts).mono (b3.ts B2)).mono (b4.ts B3)).mono tw) (Zap (r4.mono tw) ZaE)
inductive Pr_signs (x1 x2 : V) (H : Hp) (Q : VK) : Prop
 | mk (b l many) (_ : x1 = .ref b) (_ : x2 = .int many) (_ : 1 <= many /\ many <= 6) (_ : BagAt H b l) (_ : ∀ sg q ys H', SgOk sg -> (sg.length : Int) = many -> H q = none -> q ≠ b -> q ≠ l -> H' q = some (.lst ys) -> Reps H' (sg.map Zgc) ys -> BagAt H' b l -> BSame b H H' -> Q (.ref q) H') : Pr_signs x1 x2 H Q
noncomputable def ZgJ : Sp := sp2 (Pr_signs)
theorem sc__law_signs : FnScope ["bag", "many", "signs", "k", "boxes"] ["bag", "many"] (Zag Zbk) := ⟨rfl, rfl, rfl, by decide +kernel, rfl, by decide +kernel, by decide +kernel⟩
theorem ZfO (B : Blt mg) (T__law_signs : TopFn K mg "_law_signs" Zbk ["bag", "many"]) (Zak : Callee P w K mg base "_law_draw" 1 ["bag", "many"] ZcC) : Callee P w K mg base "_law_signs" 2 ["bag", "many"] ZgJ := by
 refine T__law_signs.ok2 sc__law_signs fun f cdv A outer s H v1 v2 Q E hr h => ?_
 have nd := sc__law_signs.nd
 obtain ⟨b, l, many, rfl, rfl, ⟨m0, m1⟩, Bg, k⟩ := h
 refine' ZaI [some (.ref b), some (.int many), none, none, none] rfl ?hb ?hg
 case' hb => refine' Zae ?bab ?bac
 case' bab => refine' Zdp (i := 2) ?bad ?bae ?baf ?bag
 case bad => exact nd
 case bae => exact rfl
 case baf => exact (Or.inl rfl)
 case' bag => refine' Za9 ?bah
 case' bah => refine' ZbS ?bai ?baj
 case' bai => refine' Za0 ?bak
 case' bak => refine' Zah ?bal ?bam
 case bal => exact Zab
 case bam => exact (Zbs (Zas Za8 Zab (ZaK Zak (hr.mono (by first | decide | lia)) (by rfl) (Zaa (pv 0) (Zah Zab Zad)))) Zad)
 case baj => exact Zad
 case' bac => refine' Zae ?ban ?bao
 case' ban => refine' ZcA ?bap ?baq ?bar ?bas ?bat
 case bap => exact PassesOwn.never
 case baq => exact rfl
 case bar => exact (ZbQ rfl B.b_range (Zbs (Zas ZcI (pv 1) Zab) Zad))
 case bas => exact (ZaG (i := 3) nd rfl (Or.inl rfl))
 case' bat => refine' Zae ?bau ?bav
 case' bau => refine' Zbr (i := 4) ?baw ?bax ?bay ?baz
 case baw => exact nd
 case bax => exact rfl
 case bay => exact (Or.inl rfl)
 case baz => exact (Zas Za8 Zab (ZaK Zak (hr.mono (by first | decide | lia)) (by rfl) (Zaa (pv 0) (Zah Zab Zad))))
 case' bav => refine' Zaf ?bba
 case' bba => refine' Zdq ?bbb
 case' bbb => refine' k_bm (K := K) ?bbc ?bbd ?bbe ?bbf ?bbg ?bbh ?bbi
 case bbc => exact rfl
 case bbd => exact PySem.F.plainAttrs_list
 case bbe => exact PySem.F.slot_list_append
 case bbf => exact PySem.F.type_list_append
 case bbg => exact Zcq
 case bbh => exact (pv 2)
 case' bbi => refine' ZbS ?bbj ?bbk
 case' bbj => refine' Za0 ?bbl
 case' bbl => refine' ZaB ?bbm ?bbn
 case' bbm => refine' ZaK ?bbo ?bbp ?bbq ?bbr
 case bbo => exact Zak
 case bbp => exact (hr.mono (by first | decide | lia))
 case bbq => exact (by rfl)
 case' bbr => refine' Zaa ?bbs ?bbt
 case bbs => exact (pv 0)
 case bbt => exact (Zbs (Zas Za8 (Zai (Zeq rfl) (by rfl) B.b_min ZjF (Zah Zab (Zaa (pv 4) Zad))) Zab) Zad)
 case bbn => exact (Zaa (pv 4) Zad)
 case bbk => exact Zad
 case bao => exact (Zaf (Zan (pv 2)))
 walk_at "rd"
 refine use2 ⟨b, l, 8, rfl, rfl, ⟨by decide, by decide⟩, Bg, fun bx H1 x0 x1 B1 b1 => ?_⟩
 walk_at "rd"
 walk_at "mk"; intro t1 ht1
 have s1 := Same.new (o := .tup [V.int 0, V.int (1 + bx)]) ht1
 walk_at "mk"; intro q hq
 have s2 := Same.new (o := .lst [V.ref t1]) hq
 have B2 := (B1.mono s1).mono s2
 have nqb : q ≠ b := fun z => ((B1.mono s1).ne hq).1 z.symm
 have nql : q ≠ l := fun z => ((B1.mono s1).ne hq).2 z.symm
 have hqH : H q = none := (b1.to s1).free nqb hq
 walk_at "rd"
 refine Zdh (by lia) (by lia) ?_
 refine Zcu (n := (many - 1).toNat) (fun i σ Hx => Ex4 fun sg ys x3 x4 => An8 (σ = [some (.ref b), some (.int many), some (.ref q), x3, x4]) (Hx q = some (.lst ys)) (Reps Hx (sg.map Zgc) ys) (sg.length = i + 1) (∃ bx, sg[0]? = some (0, bx)) (∀ q ∈ sg, 0 <= q.1 /\ q.1 <= 4 /\ q.1 <= q.2 /\ 1 <= q.2 /\ q.2 <= 8) (BagAt Hx b l) (BSame b H Hx))
  ⟨[(0, 1 + bx)], [V.ref t1], none, none, rfl, Zac, Zap (ZbP (s2 _ _ Zac) (Zap Zbq (Zap Zbq ZaE))) ZaE, rfl, ⟨_, rfl⟩, by intro q hq; obtain rfl := List.mem_singleton.mp hq; dsimp only; lia, B2, (b1.to s1).to s2⟩ ?_ ?_
 ·rintro i σ Hx hi ⟨sg, ys, x3, x4, rfl, hqx, rr, hl, h0, ok, Bx, bx⟩
  have hyl := rr.length
  rw [List.length_map] at hyl
  walk_at "rd"
  refine use2 ⟨b, l, 8, rfl, rfl, ⟨by decide, by decide⟩, Bx, fun bn H3 y0 y1 B3 b3 => ?_⟩
  walk_at "rd"
  have hqx3 : H3 q = some (.lst ys) := b3 _ _ nqb hqx
  refine ⟨.inl ⟨rfl, ys, SqL.of hqx3⟩, ?_⟩
  walk_at "rd"
  generalize hmn : (if 1 + bn < 4 then 1 + bn else 4) = mn
  have hmn2 : 1 <= mn /\ mn <= 4 /\ mn <= 1 + bn := by rw [<- hmn]; split <;> lia
  refine use2 ⟨b, l, mn + 1, rfl, rfl, ⟨by lia, by lia⟩, B3, fun tk H4 z0 z1 B4 b4 => ?_⟩
  walk_at "rd"
  walk_at "mk"; intro t2 ht2
  have s4 := Same.new (o := .tup [V.int tk, V.int (1 + bn)]) ht2
  have hq4 := s4 _ _ (b4 _ _ nqb hqx3)
  walk_at "rd"
  refine Zcp hq4 (Nat.lt_of_le_of_lt (show ys.length <= 1000 by lia) (by decide)) ?_
  walk_at "rd"
  have tw : TSame (upd H4 t2 (.tup [V.int tk, V.int (1 + bn)])) (upd (upd H4 t2 (.tup [V.int tk, V.int (1 + bn)])) q (.lst (ys ++ [V.ref t2]))) := TSame.wr (fun zs z => by rw [hq4] at z; cases z)
  refine ⟨sg ++ [(tk, 1 + bn)], ys ++ [V.ref t2], _, _, rfl, Zac, ?_, by simp [hl], ?_, ?_, (B4.mono s4).wr (Ne.symm nqb) (Ne.symm nql), (((bx.trans b3).trans b4).to s4).wrNew hqH⟩
  ·rw [List.map_append]
   exact Reps.append ((((rr.mono (b3.ts Bx)).mono (b4.ts B3)).mono s4.ts).mono tw) (Zap ((ZbP Zac (Zap Zbq (Zap Zbq ZaE)) : Rep _ (Zgc (tk, 1 + bn)) (.ref t2)).mono tw) ZaE)
  ·obtain ⟨bx0, h0⟩ := h0
   exact ⟨bx0, by rw [List.getElem?_append_left (by lia)]; exact h0⟩
  ·intro x hx
   rcases List.mem_append.mp hx with hx | hx
   ·exact ok x hx
   ·obtain rfl := List.mem_singleton.mp hx
    dsimp only
    lia
 ·rintro σ Hx ⟨sg, ys, x3, x4, rfl, hqx, rr, hl, h0, ok, Bx, bx⟩
  walk_at "rd"
  exact k sg q ys _ ⟨by lia, by lia, h0, ok⟩ (by lia) hqH nqb nql hqx rr Bx bx
inductive Pr_program (x1 : V) (H : Hp) (Q : VK) : Prop
 | mk (b l) (_ : x1 = .ref b) (_ : BagAt H b l) (_ : ∀ sg ds q vs H', ProgOk sg ds -> H q = none -> q ≠ b -> q ≠ l -> H' q = some (.lst vs) -> DefsAt [b, q] H' ds vs -> BagAt H' b l -> BSame b H H' -> Q (.ref q) H') : Pr_program x1 H Q
noncomputable def Zhs : Sp := sp1 (Pr_program)
theorem sc__law_program : FnScope ["bag", "big", "many", "signs", "program", "takes", "boxes", "size"] ["bag"] (Zag Za4) := ⟨rfl, rfl, rfl, by decide +kernel, rfl, by decide +kernel, by decide +kernel⟩
theorem Zey (B : Blt mg) (T__law_program : TopFn K mg "_law_program" Za4 ["bag"]) (Zak : Callee P w K mg base "_law_draw" 1 ["bag", "many"] ZcC) (Zc1 : Callee P w K mg base "_law_signs" 2 ["bag", "many"] ZgJ)
  (ZdA : Callee P w K mg base "_law_rows" 5 ["bag", "boxes", "many", "signs"] Zh9) : Callee P w K mg base "_law_program" 6 ["bag"] Zhs := by
 refine T__law_program.ok1 sc__law_program fun f cdv A outer s H v1 Q E hr h => ?_
 have nd := sc__law_program.nd
 obtain ⟨b, l, rfl, Bg, k⟩ := h
 refine' ZaI [some (.ref b), none, none, none, none, none, none, none] rfl ?hb ?hg
 case' hb => refine' Zae ?bab ?bac
 case bab => exact (Zcl (i := 1) nd rfl (Or.inl rfl) (ZaK Zak (hr.mono (by first | decide | lia)) (by rfl) (Zaa (pv 0) (Zah Zab Zad))))
 case' bac => refine' Zae ?bad ?bae
 case' bad => refine' Zbr (i := 2) ?baf ?bag ?bah ?bai
 case baf => exact nd
 case bag => exact rfl
 case bah => exact (Or.inl rfl)
 case bai => exact (Zas Za8 Zab (ZaK Zak (hr.mono (by first | decide | lia)) (by rfl) (Zaa (pv 0) (Zah Zab Zad))))
 case' bae => refine' Zae ?baj ?bak
 case' baj => refine' ZaF ?bal ?bam ?ban
 case bal => exact (Zal Za1 (pv 1) Zab (Zar _))
 case' bam => refine' Zaf ?bao
 case' bao => refine' Zbr (i := 2) ?bap ?baq ?bar ?bas
 case bap => exact nd
 case baq => exact rfl
 case bar => exact (Or.inl rfl)
 case bas => exact (Zas Za8 Zab (ZaK Zak (hr.mono (by first | decide | lia)) (by rfl) (Zaa (pv 0) (Zah Zab Zad))))
 case ban => exact Zam
 case' bak => refine' Zae ?bat ?bau
 case bat => exact (Zcl (i := 3) nd rfl (Or.inl rfl) (ZaK Zc1 (hr.mono (by first | decide | lia)) (by rfl) (Zaa (pv 0) (Zaa (pv 2) Zad))))
 case' bau => refine' Zae ?bav ?baw
 case bav => exact (Zdp (i := 4) nd rfl (Or.inl rfl) (Za9 Zad))
 case' baw => refine' Zae ?bax ?bay
 case' bax => refine' ZcA ?baz ?bba ?bbb ?bbc ?bbd
 case baz => exact PassesOwn.never
 case bba => exact rfl
 case bbb => exact (Zbh (K := K) rfl (pv 3))
 case bbc => exact (ZcO (K := K) (n := 2) rfl rfl (Zbf (ZaG (i := 5) nd rfl (Or.inl rfl)) (Zbf (ZaG (i := 6) nd rfl (Or.inl rfl)) Zds)))
 case' bbd => refine' Zae ?bbe ?bbf
 case' bbe => refine' Zbr (i := 7) ?bbg ?bbh ?bbi ?bbj
 case bbg => exact nd
 case bbh => exact rfl
 case bbi => exact (Or.inl rfl)
 case' bbj => refine' Zas ?bbk ?bbl ?bbm
 case bbk => exact Za8
 case bbl => exact (Zas Za8 Zab (ZaK Zak (hr.mono (by first | decide | lia)) (by rfl) (Zaa (pv 0) (Zah Zab Zad))))
 case' bbm => refine' Zas ?bbn ?bbo ?bbp
 case bbn => exact ZdW
 case bbo => exact (Zai (Zbt (K := K) rfl) (by rfl) B.b_len ZaW (Zau (Zao (k_ix (K := K) rfl) (pv 0) Zab (fun _ _ => rfl)) Zad))
 case bbp => exact Zab
 case' bbf => refine' Zae ?bbq ?bbr
 case' bbq => refine' ZaF ?bbs ?bbt ?bbu
 case' bbs => refine' PW.pt ?bbv
 case' bbv => refine' Zf8 ?bbw ?bbx
 case bbw => exact (Zal Za1 (pv 1) Zab (Zar _))
 case' bbx => refine' Zfp ?bby
 case' bby => refine' PW.pt ?bbz
 case' bbz => refine' Zb0 ?bca ?bcb
 case bca => exact (Zal Za1 (pv 1) Zab (Zar _))
 case' bcb => refine' ZbV ?bcc
 case bcc => exact (Zal Za1 (ZaK Zak (hr.mono (by first | decide | lia)) (by rfl) (Zaa (pv 0) (Zah Zab Zad))) Zab (Zar _))
 case' bbt => refine' Zaf ?bcd
 case' bcd => refine' Zbr (i := 7) ?bce ?bcf ?bcg ?bch
 case bce => exact nd
 case bcf => exact rfl
 case bcg => exact (Or.inl rfl)
 case bch => exact (Zas Za8 Zab (ZaK Zak (hr.mono (by first | decide | lia)) (by rfl) (Zaa (pv 0) (Zah Zab Zad))))
 case bbu => exact Zam
 case' bbr => refine' Zaf ?bci
 case' bci => refine' Zdq ?bcj
 case' bcj => refine' k_bm (K := K) ?bck ?bcl ?bcm ?bcn ?bco ?bcp ?bcq
 case bck => exact rfl
 case bcl => exact PySem.F.plainAttrs_list
 case bcm => exact PySem.F.slot_list_append
 case bcn => exact PySem.F.type_list_append
 case bco => exact Zcq
 case bcp => exact (pv 4)
 case' bcq => refine' ZbS ?bcr ?bcs
 case' bcr => refine' Za0 ?bct
 case' bct => refine' Zaa ?bcu ?bcv
 case bcu => exact (pv 5)
 case' bcv => refine' Zaa ?bcw ?bcx
 case bcw => exact (pv 6)
 case' bcx => refine' ZaB ?bcy ?bcz
 case bcy => exact (ZaK ZdA (hr.mono (by first | decide | lia)) (by rfl) (Zaa (pv 0) (Zaa (pv 6) (Zaa (pv 7) (Zaa (pv 3) Zad)))))
 case bcz => exact Zad
 case bcs => exact Zad
 case bay => exact (Zaf (Zan (pv 4)))
 walk_at "rd"
 refine use2 ⟨b, l, 8, rfl, rfl, ⟨by decide, by decide⟩, Bg, fun big H1 g0 g1 B1 b1 => ?_⟩
 walk_at "rd"
 refine use2 ⟨b, l, 3, rfl, rfl, ⟨by decide, by decide⟩, B1, fun m3 H2 h0 h1 B2 b2 => ?_⟩
 refine Zma (ZcN ?_)
 try dsimp +zetaDelta only
 refine ZcG (fun σ Hx => ∃ many, An5 (σ = [some (.ref b), some (.int big), some (.int many), none, none, none, none, none]) (1 <= many) (many <= 6) (BagAt Hx b l) (BSame b H Hx)) ?rest ?two
 case two =>
  intro N hN
  walk_at "rd"
  refine Zav (fun _ => ?_) (fun _ => ?_)
  ·walk_at "rd"
   refine use2 ⟨b, l, 6, rfl, rfl, ⟨by decide, by decide⟩, B2, fun m6 H3 i0 i1 B3 b3 => ?_⟩
   walk_at "rd"
   exact hN _ _ ⟨1 + m6, rfl, by lia, by lia, B3, (b1.trans b2).trans b3⟩
  ·walk_at "rd"
   exact hN _ _ ⟨1 + m3, rfl, by lia, by lia, B2, b1.trans b2⟩
 case rest =>
  rintro σ Hx ⟨many, rfl, m0, m1, Bx, bx⟩
  walk_at "rd"
  refine use2 ⟨b, l, many, rfl, rfl, ⟨m0, m1⟩, Bx, fun sg sq ys H3 SG sgl hsq nsb nsl hs3 r3 B3 b3 => ?_⟩
  walk_at "rd"
  walk_at "mk"; intro q hq
  have s3 := Same.new (o := .lst []) hq
  have nqb : q ≠ b := fun z => (B3.ne hq).1 z.symm
  have nql : q ≠ l := fun z => (B3.ne hq).2 z.symm
  have bb3 : BSame b H H3 := bx.trans b3
  have hqH : H q = none := bb3.free nqb hq
  have nsq : sq ≠ q := Zba hs3 hq
  have hsl := r3.length
  rw [List.length_map] at hsl
  walk_at "rd"
  refine Zct (SqL.of (s3 _ _ hs3)) ?_
  refine Zdi (xs := ys) (fun i σ Hy => Ex5 fun ds vs x5 x6 x7 => An9 (σ = [some (.ref b), some (.int big), some (.int many), some (.ref sq), some (.ref q), x5, x6, x7]) (Hy q = some (.lst vs)) (DefsAt [b, q] Hy ds vs) (Hy sq = some (.lst ys)) (Reps Hy (sg.map Zgc) ys) (ds.map (fun d => (d.1, d.2.1)) = sg.take i) (∀ d ∈ ds, ∃ many, 1 <= many /\ many <= 30 /\ RowsOk sg d.2.1 many d.2.2) (BagAt Hy b l) (BSame b H Hy))
   ⟨[], [], none, none, none, rfl, Zac, rfl, s3 _ _ hs3, r3.mono s3.ts, rfl, by simp, B3.mono s3, bb3.to s3⟩ (fun i σ Hy _ z_ => by obtain ⟨_, _, _, _, _, _, _, _, e, _⟩ := z_; exact SqL.of e) ?_ ?_
  ·rintro i x σ Hy hx ⟨ds, vs, x5, x6, x7, rfl, hqy, da, hsy, ry, hm, ok, By, bY⟩
   obtain ⟨d, ed, rd⟩ := ry.get' hx
   rw [List.getElem?_map] at ed
   obtain ⟨p, ep, rfl⟩ := Option.map_eq_some_iff.mp ed
   have pok := SG.all p (List.mem_of_getElem? ep)
   obtain ⟨tp, zs, rfl, htp, rz⟩ := Zaz rd
   obtain ⟨u1, r1, rfl, e1, rz⟩ := Zat rz
   obtain ⟨u2, r2, rfl, e2, rz⟩ := Zat rz
   obtain rfl := Zbe rz
   obtain rfl := ZaL e1
   obtain rfl := ZaL e2
   refine Zdo htp rfl ?_
   walk_at "rd"
   refine use2 ⟨b, l, 5, rfl, rfl, ⟨by decide, by decide⟩, By, fun z H4 z0 z1 B4 b4 => ?_⟩
   obtain ⟨cs, ci, cm, cst, cc, hb4, hl4, _, _, _, _, hcs⟩ := B4.ex
   walk_at "rd"
   refine Zaj (v := .ref l) hb4 rfl ?_
   walk_at "rd"
   refine ZaO (SqL.of hl4) ?_
   walk_at "rd"
   refine rd_I (Zfd (by decide) (by decide +kernel)) ?_
   rw [List.length_map]
   refine Zma (ZcN ?_)
   have hdl := da.length
   try dsimp +zetaDelta only
   refine ZcG (fun σ Hz => ∃ size, An5 (σ = [some (.ref b), some (.int big), some (.int many), some (.ref sq), some (.ref q), some (.int p.1), some (.int p.2), some (.int size)]) (1 <= size) (size <= 30) (BagAt Hz b l) (BSame b Hy Hz)) ?rest2 ?two2
   case two2 =>
    intro N hN
    have one : ∀ Hw, BagAt Hw b l -> BSame b Hy Hw -> N [some (.ref b), some (.int big), some (.int many), some (.ref sq), some (.ref q), some (.int p.1), some (.int p.2), some (.int (1 + z + (cs.length : Int) / 8))] Hw := fun Hw Bw bw => hN _ _ ⟨_, rfl, by lia, by lia, Bw, bw⟩
    walk_at "rd"
    refine Zav (fun _ => ?_) (fun _ => ?_)
    ·walk_at "rd"
     refine use2 ⟨b, l, 30, rfl, rfl, ⟨by decide, by decide⟩, B4, fun t H5 t0 t1 B5 b5 => ?_⟩
     walk_at "rd"
     exact hN _ _ ⟨1 + t, rfl, by lia, by lia, B5, b4.trans b5⟩
    ·walk_at "rd"
     refine Zav (fun _ => ?_) (fun _ => ?_)
     ·walk_at "rd"
      refine use2 ⟨b, l, 4, rfl, rfl, ⟨by decide, by decide⟩, B4, fun u H5 u0 u1 B5 b5 => ?_⟩
      walk_at "rd"
      refine Zav (fun _ => ?_) (fun _ => ?_)
      ·walk_at "rd"
       refine use2 ⟨b, l, 30, rfl, rfl, ⟨by decide, by decide⟩, B5, fun t H6 t0 t1 B6 b6 => ?_⟩
       walk_at "rd"
       exact hN _ _ ⟨1 + t, rfl, by lia, by lia, B6, (b4.trans b5).trans b6⟩
      ·walk_at "rd"
       exact one _ B5 (b4.trans b5)
     ·walk_at "rd"
      exact one _ B4 b4
   case rest2 =>
    rintro σ Hz ⟨size, rfl, y0, y1, Bz, bz⟩
    have hqz := bz _ _ nqb hqy
    walk_at "rd"
    refine ⟨.inl ⟨rfl, vs, SqL.of hqz⟩, ?_⟩
    walk_at "rd"
    refine use4 ⟨b, l, p.2, size, sq, ys, sg, rfl, rfl, rfl, rfl, ⟨by lia, by lia⟩, ⟨y0, y1⟩, bz _ _ nsb hsy, ry.mono (bz.ts By), SG, nsb, Bz, fun rs rq zs H5 R5 hrq nrb nrl h5 rr5 B5 b5 => ?_⟩
    walk_at "rd"
    walk_at "mk"; intro t5 ht5
    have s5 := Same.new (o := .tup [V.int p.1, V.int p.2, V.ref rq]) ht5
    have hq5 := s5 _ _ (b5 _ _ nqb hqz)
    walk_at "rd"
    refine Zcp hq5 (Nat.lt_of_le_of_lt (show vs.length <= 1000 by have := congrArg List.length hm; simp at this; have := SG.few; lia) (by decide)) ?_
    walk_at "rd"
    have nrq : rq ≠ q := fun e => by rw [e, hqz] at hrq; cases hrq
    have d5 : DefsAt [b, q] _ ds vs := ((((da.bs bz By (by simp)).bs b5 Bz (by simp)).mono s5).wr (o := .lst (vs ++ [V.ref t5])) (by simp) hq5)
    have tw : TSame (upd H5 t5 (.tup [V.int p.1, V.int p.2, V.ref rq])) (upd (upd H5 t5 (.tup [V.int p.1, V.int p.2, V.ref rq])) q (.lst (vs ++ [V.ref t5]))) := TSame.wr (fun zs z => by rw [hq5] at z; cases z)
    have nsq5 : sq ≠ q := nsq
    refine ⟨ds ++ [(p.1, p.2, rs)], vs ++ [V.ref t5], _, _, _, rfl, Zac, d5.append ⟨_, _, rfl, ⟨t5, rq, zs, rfl, tw _ _ Zac, ?_, ?_, (rr5.mono s5.ts).mono tw⟩, rfl⟩, ?_, ?_, ?_, ?_, ?_, ?_⟩
    ·rw [ZaH nrq]
     exact s5 _ _ h5
    ·simp only [List.mem_cons, List.not_mem_nil, or_false, not_or]
     exact ⟨nrb, nrq⟩
    ·rw [ZaH nsq5]
     exact s5 _ _ (b5 _ _ nsb (bz _ _ nsb hsy))
    ·exact (((ry.mono (bz.ts By)).mono (b5.ts Bz)).mono s5.ts).mono tw
    ·rw [List.map_append, hm, List.take_add_one, ep]
     rfl
    ·intro d hd
     rcases List.mem_append.mp hd with hd | hd
     ·exact ok d hd
     ·obtain rfl := List.mem_singleton.mp hd
      exact ⟨size, y0, y1, R5⟩
    ·exact (B5.mono s5).wr (Ne.symm nqb) (Ne.symm nql)
    ·exact (((bY.trans bz).trans b5).to s5).wrNew hqH
  ·rintro σ Hy ⟨ds, vs, x5, x6, x7, rfl, hqy, da, hsy, ry, hm, ok, By, bY⟩
   walk_at "rd"
   rw [<- hsl, List.take_length] at hm
   exact k sg ds q vs _ ⟨SG, hm, ok⟩ hqH nqb nql hqy da By bY
noncomputable def ZeQ (H : Hp) : Nat -> V -> V -> Prop
 | 0, _, _ => False
 | n + 1, x, y => (x = y /\ (x = .non \/ (∃ i, x = .int i) \/ ∃ z, x = .str z)) \/ ∃ a b xs ys, x = .ref a /\ y = .ref b /\ ((H a = some (.lst xs) /\ H b = some (.lst ys)) \/ (H a = some (.tup xs) /\ H b = some (.tup ys))) /\ xs.length = ys.length /\ xs.length <= 1000 /\ ∀ (i : Nat) u v, xs[i]? = some u -> ys[i]? = some v -> ZeQ H n u v
noncomputable def spAl (n : Nat) : Sp := sp2 fun x y H Q => ZeQ H n x y /\ Q (.bl true) H
theorem sc__law_alike : FnScope ["found", "due", "k"] ["found", "due"] (Zag Zbd) := ⟨rfl, rfl, rfl, by decide +kernel, rfl, by decide +kernel, by decide +kernel⟩
theorem al_0 (T__law_alike : TopFn K mg "_law_alike" Zbd ["found", "due"]) : Callee P w K mg base "_law_alike" 1 ["found", "due"] (spAl 0) :=
 T__law_alike.ok2 sc__law_alike fun f cdv A outer s H v1 v2 Q E hr h => h.1.elim
theorem Zdz {n lev : Nat} (B : Blt mg) (T__law_alike : TopFn K mg "_law_alike" Zbd ["found", "due"]) (Zc3 : Callee P w K mg base "_law_alike" lev ["found", "due"] (spAl n)) : Callee P w K mg base "_law_alike" (lev + 1) ["found", "due"] (spAl (n + 1)) := by
 refine T__law_alike.ok2 sc__law_alike fun f cdv A outer s H v1 v2 Q E hr h => ?_
 have nd := sc__law_alike.nd
 obtain ⟨h, k⟩ := h
 refine' ZaI [some v1, some v2, none] rfl ?hb ?hg
 case' hb => refine' Zae ?bab ?bac
 case bab => exact (ZaF (Zal ZiQ (pv 1) Zlh (Zar _)) (Zaf (Zan (Zcm ZiQ (pv 0) Zlh (Zar _)))) Zam)
 case' bac => refine' Zae ?bad ?bae
 case' bad => refine' ZaF ?baf ?bag ?bah
 case' baf => refine' Zbm ?bai
 case' bai => refine' Zai ?baj ?bak ?bal ?bam ?ban
 case baj => exact ZaQ
 case bak => exact (by rfl)
 case bal => exact B.b_isinstance
 case bam => exact Zaq
 case ban => exact (Zaa (pv 1) (Zaa (Za7 (v := .ty "bool") (by rfl) B.b_bool Zes rfl) Zad))
 case' bag => refine' Zaf ?bao
 case' bao => refine' Zan ?bap
 case' bap => refine' ZdM ?baq ?bar
 case' baq => refine' Zai ?bas ?bat ?bau ?bav ?baw
 case bas => exact ZaQ
 case bat => exact (by rfl)
 case bau => exact B.b_isinstance
 case bav => exact Zaq
 case baw => exact (Zaa (pv 0) (Zaa (Za7 (v := .ty "bool") (by rfl) B.b_bool Zes rfl) Zad))
 case bar => exact (Zed (Zcm Za1 (pv 0) (pv 1) (Zar _)))
 case bah => exact Zam
 case' bae => refine' Zae ?bax ?bay
 case' bax => refine' ZaF ?baz ?bba ?bbb
 case' baz => refine' Zbm ?bbc
 case bbc => exact (Zai ZaQ (by rfl) B.b_isinstance Zaq (Zaa (pv 1) (Zaa (Za7 (v := .ty "int") (by rfl) B.b_int ZfQ rfl) Zad)))
 case' bba => refine' Zaf ?bbd
 case' bbd => refine' Zan ?bbe
 case' bbe => refine' ZdM ?bbf ?bbg
 case bbf => exact (Zai ZaQ (by rfl) B.b_isinstance Zaq (Zaa (pv 0) (Zaa (Za7 (v := .ty "int") (by rfl) B.b_int ZfQ rfl) Zad)))
 case' bbg => refine' ZdM ?bbh ?bbi
 case' bbh => refine' Zlg ?bbj
 case' bbj => refine' Zai ?bbk ?bbl ?bbm ?bbn ?bbo
 case bbk => exact ZaQ
 case bbl => exact (by rfl)
 case bbm => exact B.b_isinstance
 case bbn => exact Zaq
 case bbo => exact (Zaa (pv 0) (Zaa (Za7 (v := .ty "bool") (by rfl) B.b_bool Zes rfl) Zad))
 case bbi => exact (Zed (Zcm Za1 (pv 0) (pv 1) (Zar _)))
 case bbb => exact Zam
 case' bay => refine' Zae ?bbp ?bbq
 case' bbp => refine' ZaF ?bbr ?bbs ?bbt
 case' bbr => refine' Zbm ?bbu
 case bbu => exact (Zai ZaQ (by rfl) B.b_isinstance Zaq (Zaa (pv 1) (Zaa (Za7 (v := .ty "str") (by rfl) B.b_str Zhh rfl) Zad)))
 case' bbs => refine' Zaf ?bbv
 case' bbv => refine' Zan ?bbw
 case' bbw => refine' ZdM ?bbx ?bby
 case bbx => exact (Zai ZaQ (by rfl) B.b_isinstance Zaq (Zaa (pv 0) (Zaa (Za7 (v := .ty "str") (by rfl) B.b_str Zhh rfl) Zad)))
 case bby => exact (Zed (Zcm Za1 (pv 0) (pv 1) (Zar _)))
 case bbt => exact Zam
 case' bbq => refine' Zae ?bbz ?bca
 case' bbz => refine' ZaF ?bcb ?bcc ?bcd
 case' bcb => refine' Zbm ?bce
 case' bce => refine' Zai ?bcf ?bcg ?bch ?bci ?bcj
 case bcf => exact ZaQ
 case bcg => exact (by rfl)
 case bch => exact B.b_isinstance
 case bci => exact Zaq
 case bcj => exact (Zaa (pv 1) (Zaa (Za7 (v := .ty "tuple") (by rfl) B.b_tuple ZbX rfl) Zad))
 case' bcc => refine' Zaf ?bck
 case' bck => refine' ZaF ?bcl ?bcm ?bcn
 case' bcl => refine' Zb1 ?bco
 case' bco => refine' Zbm ?bcp
 case' bcp => refine' Zai ?bcq ?bcr ?bcs ?bct ?bcu
 case bcq => exact ZaQ
 case bcr => exact (by rfl)
 case bcs => exact B.b_isinstance
 case bct => exact Zaq
 case bcu => exact (Zaa (pv 0) (Zaa (Za7 (v := .ty "tuple") (by rfl) B.b_tuple ZbX rfl) Zad))
 case bcm => exact (Zaf (Zan Zb9))
 case bcn => exact Zam
 case' bcd => refine' Zaf ?bcv
 case' bcv => refine' ZaF ?bcw ?bcx ?bcy
 case' bcw => refine' Zb1 ?bcz
 case' bcz => refine' Zbm ?bda
 case' bda => refine' Zai ?bdb ?bdc ?bdd ?bde ?bdf
 case bdb => exact ZaQ
 case bdc => exact (by rfl)
 case bdd => exact B.b_isinstance
 case bde => exact Zaq
 case bdf => exact (Zaa (pv 0) (Zaa (Za7 (v := .ty "list") (by rfl) B.b_list ZcY rfl) Zad))
 case bcx => exact (Zaf (Zan Zb9))
 case bcy => exact Zam
 case' bca => refine' Zae ?bdg ?bdh
 case' bdg => refine' ZaF ?bdi ?bdj ?bdk
 case' bdi => refine' Zal ?bdl ?bdm ?bdn ?bdo
 case bdl => exact Ze0
 case bdm => exact (Zai (Zbt (K := K) rfl) (by rfl) B.b_len ZaW (Zaa (pv 0) Zad))
 case bdn => exact (Zai (Zbt (K := K) rfl) (by rfl) B.b_len ZaW (Zaa (pv 1) Zad))
 case bdo => exact (Zar _)
 case bdj => exact (Zaf (Zan Zb9))
 case bdk => exact Zam
 case' bdh => refine' Zae ?bdp ?bdq
 case' bdp => refine' ZcA ?bdr ?bds ?bdt ?bdu ?bdv
 case bdr => exact PassesOwn.never
 case bds => exact rfl
 case bdt => exact (ZbQ rfl B.b_range (ZaB (Zai (Zbt (K := K) rfl) (by rfl) B.b_len ZaW (Zaa (pv 1) Zad)) Zad))
 case bdu => exact (ZaG (i := 2) nd rfl (Or.inl rfl))
 case' bdv => refine' Zaf ?bdw
 case' bdw => refine' ZaF ?bdx ?bdy ?bdz
 case' bdx => refine' Zb1 ?bea
 case' bea => refine' Zbm ?beb
 case' beb => refine' ZaK ?bec ?bed ?bee ?bef
 case bec => exact Zc3
 case bed => exact (hr.mono (by first | decide | lia))
 case bee => exact (by rfl)
 case bef => exact (Zau (Zao (k_ix (K := K) rfl) (pv 0) (pv 2) (fun _ _ => rfl)) (Zau (Zao (k_ix (K := K) rfl) (pv 1) (pv 2) (fun _ _ => rfl)) Zad))
 case bdy => exact (Zaf (Zan Zb9))
 case bdz => exact Zam
 case bdq => exact (Zaf (Zan Zb9))
 have seq : ∀ (p q : Addr) (xs ys : List V), v1 = .ref p -> v2 = .ref q -> xs.length = ys.length -> xs.length <= 1000 -> (∀ (i : Nat) u v, xs[i]? = some u -> ys[i]? = some v -> ZeQ H n u v) ->
   (∀ (Q : VK) i v, xs[i]? = some v -> Q v H -> rIxA K (.ref p) (.int (i : Nat)) H Q) -> (∀ (Q : VK) i v, ys[i]? = some v -> Q v H -> rIxA K (.ref q) (.int (i : Nat)) H Q) -> (∀ Q : VK, Q (.int xs.length) H -> rLen K [.ref p] H Q) -> (∀ Q : VK, Q (.int xs.length) H -> rLen K [.ref q] H Q) ->
   tSeq (tIfS (Zhp (tOp rNe (tCB (rLen K) (Zcj (tVar 0) tNil)) (tCB (rLen K) (Zcj (tVar 1) tNil)))) (tRet (tC (.bl false))) ZjW)
    (tSeq (tFor (ZmF (Zcj (tCB (rLen K) (Zcj (tVar 1) tNil)) tNil)) (ZdQ 2) (tIfS (tNot (tB (Zhq (spAl n) [] E0 (Zcj (tOp (rIxA K) (tVar 0) (tVar 2)) (Zcj (tOp (rIxA K) (tVar 1) (tVar 2)) tNil))))) (tRet (tC (.bl false))) ZjW)) (tRet (tC (.bl true))))
    { nx := fun _ H' => Q .non H', rt := Q } [some v1, some v2, none] H := by
  intro p q xs ys e1 e2 el hl hd ix iy lx ly
  subst e1; subst e2
  walk_at "rd"
  refine lx _ ?_
  walk_at "rd"
  refine ly _ ?_
  walk_at "rd"
  refine ZkE rfl ?_
  walk_at "rd"
  refine ly _ ?_
  walk_at "rd"
  refine Zdh (by lia) (by lia) ?_
  refine Zcu (n := (xs.length : Int).toNat) (fun i σ Hx => (∃ x2, σ = [some (.ref p), some (.ref q), x2]) /\ Hx = H) ⟨⟨none, rfl⟩, rfl⟩ ?_ ?_
  ·rintro i σ Hx hi ⟨⟨x2, rfl⟩, rfl⟩
   have hi' : i < xs.length := by lia
   have eu := List.getElem?_eq_getElem hi'
   have ev := List.getElem?_eq_getElem (el ▸ hi' : i < ys.length)
   rw [show (0 : Int) + (i : Int) = (i : Int) by lia]
   walk_at "rd"
   refine ix _ i _ eu ?_
   walk_at "rd"
   refine iy _ i _ ev ?_
   walk_at "rd"
   refine use2 ⟨hd i _ _ eu ev, ?_⟩
   walk_at "rd"
   exact ⟨⟨_, rfl⟩, rfl⟩
  ·rintro σ Hx ⟨⟨x2, rfl⟩, rfl⟩
   walk_at "rd"
   exact k
 rcases h with ⟨rfl, rfl | ⟨i, rfl⟩ | ⟨z, rfl⟩⟩ | ⟨a, b, xs, ys, rfl, rfl, h, el, hl, hd⟩
 ·walk_at "rd"
  refine ZeH rfl ?_
  walk_at "rd"
  exact k
 ·walk_at "rd"
  refine ZcS (by intro z; cases z) ?_
  walk_at "rd"
  refine ZaZ rfl (by simp) (ZbG (iteF ?_))
  walk_at "rd"
  refine ZaZ rfl (by simp) (ZbG (iteT ?_))
  walk_at "rd"
  refine ZaZ rfl (by simp) (ZbG (iteT ?_))
  walk_at "rd"
  refine ZaZ rfl (by simp) (ZbG (ZbG (iteT ?_)))
  walk_at "rd"
  rw [decide_eq_true rfl]
  exact k
 ·walk_at "rd"
  refine ZcS (by intro z; cases z) ?_
  walk_at "rd"
  refine ZaZ rfl (by simp) (ZbG (iteF ?_))
  walk_at "rd"
  refine ZaZ rfl (by simp) (ZbG (iteF ?_))
  walk_at "rd"
  refine ZaZ rfl (by simp) (ZbG (iteT ?_))
  walk_at "rd"
  refine ZaZ rfl (by simp) (ZbG (iteT ?_))
  walk_at "rd"
  rw [decide_eq_true rfl]
  exact k
 ·rcases h with ⟨h1, h2⟩ | ⟨h1, h2⟩
  ·have t1 := Zd1 h1
   have t2 := Zd1 h2
   walk_at "rd"
   refine ZcS (by intro z; cases z) ?_
   walk_at "rd"
   refine ZaZ t2 (by simp) (ZbG (iteF ?_))
   walk_at "rd"
   refine ZaZ t2 (by simp) (ZbG (iteF ?_))
   walk_at "rd"
   refine ZaZ t2 (by simp) (ZbG (iteF ?_))
   walk_at "rd"
   refine ZaZ t2 (by simp) (ZbG (iteF ?_))
   walk_at "rd"
   refine ZaZ t1 (by simp) (ZbG (Zgk ?_))
   refine Zf5 ?_
   exact seq a b xs ys rfl rfl el hl hd (fun Q i v e k => Zaj h1 (ZaV rfl e) k) (fun Q i v e k => Zaj h2 (ZaV rfl e) k) (fun Q k => ZaO (SqL.of h1) k) (fun Q k => ZaO (SqL.of h2) (by rw [<- el]; exact k))
  ·have t1 : tyN H (.ref a) = some "tuple" := Zdm h1
   have t2 : tyN H (.ref b) = some "tuple" := Zdm h2
   walk_at "rd"
   refine ZcS (by intro z; cases z) ?_
   walk_at "rd"
   refine ZaZ t2 (by simp) (ZbG (iteF ?_))
   walk_at "rd"
   refine ZaZ t2 (by simp) (ZbG (iteF ?_))
   walk_at "rd"
   refine ZaZ t2 (by simp) (ZbG (iteF ?_))
   walk_at "rd"
   refine ZaZ t2 (by simp) (ZbG (iteT ?_))
   walk_at "rd"
   refine ZaZ t1 (by simp) (ZbG (Zgk ?_))
   refine Zf5 ?_
   exact seq a b xs ys rfl rfl el hl hd (fun Q i v e k => Za6 h1 (ZaV rfl e) k) (fun Q i v e k => Za6 h2 (ZaV rfl e) k) (fun Q k => Zb3 (SqT.of h1) k) (fun Q k => Zb3 (SqT.of h2) (by rw [<- el]; exact k))
theorem ZmV {H : Hp} {d : D} {x y : V} (h : Zb6 1 d) (r1 : Rep H d x) (r2 : Rep H d y) : ZeQ H 2 x y := by
  cases d with
  | non => simp [Zb6] at h
  | bl _ => simp [Zb6] at h
  | str _ => simp [Zb6] at h
  | int n => obtain rfl := ZaL r1; obtain rfl := ZaL r2; exact .inl ⟨rfl, .inr (.inl ⟨n, rfl⟩)⟩
  | tup ds =>
    obtain ⟨hl, hd⟩ := h
    obtain ⟨a, xs, rfl, ha, rx⟩ := Zaz r1
    obtain ⟨b, ys, rfl, hb, ry⟩ := Zaz r2
    refine .inr ⟨a, b, xs, ys, rfl, rfl, .inr ⟨ha, hb⟩, rx.length.symm.trans ry.length, by rw [<- rx.length]; exact hl, fun i u v eu ev => ?_⟩
    obtain ⟨d, e1, q1⟩ := rx.get' eu
    obtain ⟨d', e2, q2⟩ := ry.get' ev
    rw [e1] at e2
    cases e2
    obtain ⟨n, rfl⟩ := hd d (List.mem_of_getElem? e1)
    obtain rfl := ZaL q1
    obtain rfl := ZaL q2
    exact .inl ⟨rfl, .inr (.inl ⟨n, rfl⟩)⟩
theorem al_row {H : Hp} {r : Str × List D} {x y : V} (h : ∀ d ∈ r.2, Zb6 1 d) (hl : r.2.length < 1000) (r1 : Rep H (rowD r) x) (r2 : Rep H (rowD r) y) : ZeQ H 3 x y := by
  obtain ⟨a, xs, rfl, ha, rx⟩ := Zaz (show Rep H (.tup (.str r.1 :: r.2)) x from r1)
  obtain ⟨b, ys, rfl, hb, ry⟩ := Zaz (show Rep H (.tup (.str r.1 :: r.2)) y from r2)
  refine .inr ⟨a, b, xs, ys, rfl, rfl, .inr ⟨ha, hb⟩, rx.length.symm.trans ry.length, by rw [<- rx.length]; simp; lia, fun i u v eu ev => ?_⟩
  obtain ⟨d, e1, q1⟩ := rx.get' eu
  obtain ⟨d', e2, q2⟩ := ry.get' ev
  rw [e1] at e2
  cases e2
  cases i with
  | zero =>
    simp at e1
    subst e1
    rw [Rep] at q1 q2
    subst q1; subst q2
    exact .inl ⟨rfl, .inr (.inr ⟨_, rfl⟩)⟩
  | succ i =>
    exact ZmV (h d (List.mem_of_getElem? (by simpa using e1))) q1 q2
theorem ZmU {H : Hp} {ds : List PDef} {p q : Addr} {vs ws : List V} (h1 : H p = some (.lst vs)) (h2 : H q = some (.lst ws)) (D1 : DefsAt [] H ds vs) (D2 : DefsAt [] H ds ws) (PD : PgD ds) (hr : ∀ d ∈ ds, ∀ r ∈ d.2.2, r.2.length < 1000) : ZeQ H 6 (.ref p) (.ref q) := by
  refine .inr ⟨p, q, vs, ws, rfl, rfl, .inl ⟨h1, h2⟩, D1.length.symm.trans D2.length, by rw [<- D1.length]; exact PD.len, fun i u v eu ev => ?_⟩
  obtain ⟨d, e1, t1, q1, ys1, rfl, a1, b1, _, r1⟩ := D1.get eu
  obtain ⟨d', e2, t2, q2, ys2, rfl, a2, b2, _, r2⟩ := D2.get ev
  rw [e1] at e2
  cases e2
  have hm := List.mem_of_getElem? e1
  refine .inr ⟨t1, t2, _, _, rfl, rfl, .inr ⟨a1, a2⟩, rfl, by simp, fun j u v eu ev => ?_⟩
  match j, eu, ev with
  | 0, eu, ev => simp at eu ev; subst eu; subst ev; exact .inl ⟨rfl, .inr (.inl ⟨_, rfl⟩)⟩
  | 1, eu, ev => simp at eu ev; subst eu; subst ev; exact .inl ⟨rfl, .inr (.inl ⟨_, rfl⟩)⟩
  | 2, eu, ev =>
    simp at eu ev
    subst eu; subst ev
    have l1 := r1.length
    have l2 := r2.length
    rw [List.length_map] at l1 l2
    refine .inr ⟨q1, q2, ys1, ys2, rfl, rfl, .inl ⟨b1, b2⟩, by lia, by have := PD.rows d hm; lia, fun i u v eu ev => ?_⟩
    obtain ⟨x1, f1, g1⟩ := r1.get' eu
    obtain ⟨x2, f2, g2⟩ := r2.get' ev
    rw [f1] at f2
    cases f2
    rw [List.getElem?_map] at f1
    obtain ⟨r, er, rfl⟩ := Option.map_eq_some_iff.mp f1
    have hmr := List.mem_of_getElem? er
    exact al_row (PD.part d hm r hmr).2 (hr d hm r hmr) g1 g2
  | j + 3, eu, ev => simp at eu
theorem _root_.L2.RowR.shape {r : Str × List D} (h : RowR r) : (r.1 = Zcy /\ ∃ a b qs, r.2 = [.int a, .int b, .tup (qs.map D.int)] /\ L2.ZbE r = a :: b :: qs) \/ (r.1 ≠ Zcy /\ ∃ ns, r.2 = ns.map D.int /\ L2.ZbE r = ns) := by
 have e := h.row
 unfold rowP at e
 split at e
 ·cases e
 ·split at e
  ·next ew =>
   generalize hn : L2.ZbE r = ns at e
   rcases ns with _ | ⟨a, _ | ⟨b, qs⟩⟩
   ·cases e
   ·cases e
   ·refine .inl ⟨ew, a, b, qs, ?_, rfl⟩
    exact (congrArg (·.2) (Option.some.inj e)).symm
  ·next ew =>
   split at e
   ·exact .inr ⟨ew, L2.ZbE r, (congrArg (·.2) (Option.some.inj e)).symm, rfl⟩
   ·cases e
theorem ZeU : ∀ {ns : List Int}, (∀ n ∈ ns, Za3 n) -> ((ns.map numS).map (·.length)).sum <= 61 * ns.length
  | [], _ => Nat.le_refl _
  | n :: ns, h => by
    have h1 := ZiT (h n List.mem_cons_self)
    have h2 := ZeU fun x hx => h x (List.mem_cons_of_mem _ hx)
    simp only [List.map_cons, List.sum_cons, List.length_cons]
    lia
theorem Zin {wd : Str} {ns : List Int} (hw : wd.length <= 10) (h : ∀ n ∈ ns, Za3 n) : (rowT wd ns).length <= 10 + 63 * ns.length := by
  have h1 := StrLaws.join_length_le blank (wd :: ns.map numS)
  have h2 := ZeU h
  rw [List.map_cons, List.sum_cons, List.length_cons, List.length_map] at h1
  have h3 : blank.length = 1 := by decide
  rw [h3] at h1
  unfold rowT
  cases ns with
  | nil => exact hw
  | cons n ns =>
    simp only [List.length_cons] at h1 h2 ⊢
    lia
theorem itK_of {H : Hp} {R : It -> Hp -> Prop} {a : Addr} {xs : List V} (h : SqT K H a xs) (q : R (Itt K a) H) : itK K R (.ref a) H := ⟨a, rfl, ⟨xs, h⟩, q⟩
inductive Pr_shown_row (x y : V) (H : Hp) (Q : VK) : Prop
 | mk (wd t ns) (_ : x = .str wd) (_ : wd.length <= 10) (_ : y = .ref t) (_ : H t = some (.tup (ns.map V.int))) (_ : ns.length <= 1000) (_ : ∀ n ∈ ns, Za3 n) (_ : ∀ H', Same H H' -> Q (.str (rowT wd ns)) H') : Pr_shown_row x y H Q
noncomputable def ZdD : Sp := sp2 (Pr_shown_row)
theorem sc_shown_row : FnScope ["word", "numbers"] ["word", "numbers"] (Zag Zbu) := ⟨rfl, rfl, rfl, by decide +kernel, rfl, by decide +kernel, by decide +kernel⟩
theorem Zgr (B : Blt mg) (T_shown_row : TopFn K mg "shown_row" Zbu ["word", "numbers"]) : Callee P w K mg base "shown_row" 1 ["word", "numbers"] ZdD := by
 refine T_shown_row.ok2 sc_shown_row fun f cdv A outer s H v1 v2 Q E hr h => ?_
 have nd := sc_shown_row.nd
 obtain ⟨wd, t, ns, rfl, hw, rfl, ht, hl, hs, k⟩ := h
 refine' ZaI [some (.str wd), some (.ref t)] rfl ?hb ?hg
 case' hb => refine' Zaf ?bab
 case' bab => refine' Zan ?bac
 case' bac => refine' k_bm (K := K) ?bad ?bae ?baf ?bag ?bah ?bai ?baj
 case bad => exact rfl
 case bae => exact PySem.F.plainAttrs_str
 case baf => exact PySem.F.slot_str_join
 case bag => exact PySem.F.type_str_join
 case bah => exact (Zi7 (K := K) rfl)
 case bai => exact Zaw
 case' baj => refine' Zbs ?bak ?bal
 case' bak => refine' Zas ?bam ?ban ?bao
 case bam => exact ZcB
 case ban => exact (Za9 (Zaa (pv 0) Zad))
 case' bao => refine' ZbY (LN := ["n"]) (FN := []) (fr := []) ?bap ?baq ?bar ?bas ?bat ?bau
 case bap => exact rfl
 case baq => exact (ZcZ (by rfl))
 case bar => exact (Zg6 (K := K) rfl (pv 1))
 case' bas => intro cl C fp pins s H
 case bas => exact (ZaG (i := 0) (show ((["n"] : List Str) ++ ([] : List Str)).Nodup by decide +kernel) rfl (Or.inl rfl))
 case' bat => intro cl C fp pins s H
 case bat => exact ZbH
 case' bau => intro cl C fp pins s H
 case bau => exact (ZbR Zjv (by rfl) B.b_str Zhh (Zaa (pv 0) Zad))
 case bal => exact Zad
 walk_at "rd"
 refine ⟨rfl, ?_⟩
 walk_at "rd"
 walk_at "mk"; intro p0 hp0
 have s0 := Same.new (o := .lst [V.str wd]) hp0
 have e0 : upd H p0 (.lst [V.str wd]) p0 = some (.lst [V.str wd]) := Zac
 generalize upd H p0 (.lst [V.str wd]) = H0 at s0 e0
 walk_at "rd"
 refine itK_of (SqT.of (s0 _ _ ht)) ?_
 refine Zlp (xs := ns.map V.int) (Zax (by rw [List.length_map]; lia)) (fun i ys σ H1 => An3 (∃ x1, σ = [x1]) (H1 = H0) (ys = ((ns.take i).map numS).map V.str)) ⟨⟨none, rfl⟩, rfl, rfl⟩ (fun i ys σ H1 _ z_ => by obtain ⟨_, e, _⟩ := z_; rw [e]; exact SqT.of (s0 _ _ ht)) ?_ ?_
 ·rintro i x ys σ H1 hx hle hlt ⟨⟨x1, rfl⟩, rfl, rfl⟩
  rw [List.getElem?_map] at hx
  obtain ⟨n, en, rfl⟩ := Option.map_eq_some_iff.mp hx
  walk_at "rd"
  refine ZlK (Zif (hs n (List.mem_of_getElem? en))) ?_
  refine ⟨hlt, by simpa using hle, ⟨_, rfl⟩, rfl, ?_⟩
  rw [List.take_add_one, en]
  simp
  rfl
 rintro ys σ H1 hyl ⟨⟨x1, rfl⟩, rfl, rfl⟩ p1 hp1
 rw [List.length_map, List.take_length] at *
 have s1 := Same.new (o := .lst ((ns.map numS).map V.str)) hp1
 have e1 : upd H1 p1 (.lst ((ns.map numS).map V.str)) p1 = some (.lst ((ns.map numS).map V.str)) := Zac
 generalize upd H1 p1 (.lst ((ns.map numS).map V.str)) = H2 at s1 e1
 refine ZcH (s1 _ _ e0) e1 (Zax (by simp; lia)) fun p2 hp2 => ?_
 walk_at "rd"
 have s2 := Same.new (o := .lst ([V.str wd] ++ (ns.map numS).map V.str)) hp2
 have e2 : upd H2 p2 (.lst ([V.str wd] ++ (ns.map numS).map V.str)) p2 = some (.lst ([V.str wd] ++ (ns.map numS).map V.str)) := Zac
 have hsum := ZeU hs
 refine Zf7 (zs := wd :: ns.map numS) (SqL.of e2) (by decide) (by simp only [List.map_cons, List.sum_cons, List.length_cons, List.length_map] at hsum ⊢; lia) ?_
 exact k _ ((s0.trans s1).trans s2)
inductive Pr_numbers_of (x : V) (H : Hp) (Q : VK) : Prop
 | mk (r) (_ : Rep H (rowD r) x) (_ : RowR r) (_ : (L2.ZbE r).length <= 1000) (_ : ∀ t H', H' t = some (.tup ((L2.ZbE r).map V.int)) -> Same H H' -> Q (.ref t) H') : Pr_numbers_of x H Q
noncomputable def Zc8 : Sp := sp1 (Pr_numbers_of)
theorem sc_numbers_of : FnScope ["row"] ["row"] (Zag Zbj) := ⟨rfl, rfl, rfl, by decide +kernel, rfl, by decide +kernel, by decide +kernel⟩
theorem ZfN (B : Blt mg) (T_numbers_of : TopFn K mg "numbers_of" Zbj ["row"]) : Callee P w K mg base "numbers_of" 1 ["row"] Zc8 := by
 refine T_numbers_of.ok1 sc_numbers_of fun f cdv A outer s H v1 Q E hr h => ?_
 have nd := sc_numbers_of.nd
 obtain ⟨⟨w0, ps⟩, rr, RR, hl, k⟩ := h
 have sh := RR.shape
 obtain ⟨t, xs', rfl, ht, rx0⟩ := Zaz (show Rep H (.tup (.str w0 :: ps)) v1 from rr)
 obtain ⟨u, xs, rfl, ru, rx⟩ := Zat rx0
 obtain rfl : u = .str w0 := by rwa [Rep] at ru
 refine' ZaI [some (.ref t)] rfl ?hb ?hg
 case' hb => refine' Zae ?bab ?bac
 case' bab => refine' ZaF ?bad ?bae ?baf
 case bad => exact (Zal Za1 (Zao (k_ix (K := K) rfl) (pv 0) Zab (fun _ _ => rfl)) Zaw (Zar _))
 case' bae => refine' Zaf ?bag
 case' bag => refine' Zan ?bah
 case' bah => refine' Zas ?bai ?baj ?bak
 case bai => exact (Zcg (K := K) rfl)
 case baj => exact (ZaC (ZdP (K := K) rfl) (pv 0) (ZaJ Zab) (ZaJ Zab))
 case bak => exact (Zao (k_ix (K := K) rfl) (pv 0) Zab (fun _ _ => rfl))
 case baf => exact Zam
 case bac => exact (Zaf (Zan (ZaC (Zmy (K := K) rfl) (pv 0) (ZaJ Zab) ZaM)))
 walk_at "rd"
 refine Za6 ht (v := .str w0) (ZaV (n := 0) rfl rfl) ?_
 walk_at "rd"
 refine Zav (fun ec => ?_) (fun ec => ?_)
 ·rcases sh with ⟨_, a, b, qs, e2, en⟩ | ⟨n, _⟩
  ·obtain rfl : ps = _ := e2
   obtain ⟨v1, r1, rfl, q1, rx⟩ := Zat rx
   obtain ⟨v2, r2, rfl, q2, rx⟩ := Zat rx
   obtain ⟨v3, r3, rfl, q3, rx⟩ := Zat rx
   obtain rfl := Zbe rx
   obtain rfl := ZaL q1
   obtain rfl := ZaL q2
   obtain ⟨t3, z3, rfl, ht3, rz⟩ := Zaz q3
   obtain rfl := Zd8 rz
   walk_at "rd"
   refine Zce ht fun p1 H1 hp1 s1 => ?_
   walk_at "rd"
   refine Za6 (s1 _ _ ht) (v := .ref t3) (ZaV (n := 3) rfl rfl) ?_
   have hlq : qs.length <= 1000 := by rw [en] at hl; simp only [List.length_cons] at hl; lia
   refine ZbF (xs := [.int a, .int b]) hp1 (s1 _ _ ht3) (by simp; lia) fun p2 H2 hp2 s2 => ?_
   refine k p2 H2 ?_ (s1.trans s2)
   rw [hp2, en]
   rfl
  ·exact absurd ec n
 ·rcases sh with ⟨e1, _⟩ | ⟨_, ns, e2, en⟩
  ·exact absurd e1 ec
  ·obtain rfl : ps = _ := e2
   obtain rfl := Zd8 rx
   walk_at "rd"
   refine Zf4 ht fun p1 hp1 => ?_
   refine k p1 _ ?_ (Same.new hp1)
   rw [en]
   exact Zac
structure DefT (d : PDef) : Prop where
 r : DefR d
 n : d.2.2.length <= 400
 m : ∀ r ∈ d.2.2, (L2.ZbE r).length <= 50
theorem ZdY {d : PDef} (h : DefT d) : ∀ l ∈ defL d, l.length <= 3200 := by
 intro l hl
 rcases List.mem_cons.mp hl with rfl | hl
 ·have := Zin (wd := defW) (ns := [d.1, d.2.1]) (by decide) (by
   intro n hn
   simp only [List.mem_cons, List.not_mem_nil, or_false] at hn
   rcases hn with rfl | rfl
   ·exact h.r.takes
   ·exact h.r.boxes)
  simp only [List.length_cons, List.length_nil] at this
  unfold Zgm
  lia
 ·obtain ⟨r, hr, rfl⟩ := List.mem_map.mp hl
  have := Zin (wd := r.1) (ns := L2.ZbE r) (Zc4 (h.r.rows r hr).row).2.2 (h.r.rows r hr).num
  have := h.m r hr
  lia
theorem Zh6 {c : Nat} : ∀ {ls : List Str}, (∀ l ∈ ls, l.length <= c) -> (ls.map (·.length)).sum <= c * ls.length
  | [], _ => Nat.le_refl _
  | l :: ls, h => by
    have h1 := h l List.mem_cons_self
    have h2 := Zh6 fun x hx => h x (List.mem_cons_of_mem _ hx)
    simp only [List.map_cons, List.sum_cons, List.length_cons, Nat.mul_add]
    lia
inductive Pr_shown_def (x : V) (H : Hp) (Q : VK) : Prop
 | mk (d) (_ : DefAt [] H d x) (_ : DefT d) (_ : ∀ p H', H' p = some (.lst ((defL d).map V.str)) -> Same H H' -> Q (.ref p) H') : Pr_shown_def x H Q
noncomputable def ZdE : Sp := sp1 (Pr_shown_def)
theorem sc_shown_def : FnScope ["one"] ["one"] (Zag Zbv) := ⟨rfl, rfl, rfl, by decide +kernel, rfl, by decide +kernel, by decide +kernel⟩
theorem Zgs (B : Blt mg) (T_shown_def : TopFn K mg "shown_def" Zbv ["one"]) (Cshown_row : Callee P w K mg base "shown_row" 1 ["word", "numbers"] ZdD) (Cnumbers_of : Callee P w K mg base "numbers_of" 1 ["row"] Zc8) : Callee P w K mg base "shown_def" 2 ["one"] ZdE := by
 refine T_shown_def.ok1 sc_shown_def fun f cdv A outer s H v1 Q E hr h => ?_
 have nd := sc_shown_def.nd
 obtain ⟨d, ⟨t, q, ys, rfl, ht, hq, _, rr⟩, DT, k⟩ := h
 have hyl := rr.length
 rw [List.length_map] at hyl
 have hn := DT.n
 refine' ZaI [some (.ref t)] rfl ?hb ?hg
 case' hb => refine' Zaf ?bab
 case' bab => refine' Zan ?bac
 case' bac => refine' Zas ?bad ?bae ?baf
 case bad => exact ZcB
 case' bae => refine' Za9 ?bag
 case' bag => refine' ZaB ?bah ?bai
 case' bah => refine' ZaK ?baj ?bak ?bal ?bam
 case baj => exact Cshown_row
 case bak => exact (hr.mono (by first | decide | lia))
 case bal => exact (by rfl)
 case bam => exact (Zah Zaw (Zau (ZaC (ZdP (K := K) rfl) (pv 0) ZaM (ZaJ Zab)) Zad))
 case bai => exact Zad
 case' baf => refine' ZbY (LN := ["row"]) (FN := []) (fr := []) ?ban ?bao ?bap ?baq ?bar ?bas
 case ban => exact rfl
 case bao => exact (ZcZ (by rfl))
 case bap => exact (Zbh (K := K) rfl (Zao (k_ix (K := K) rfl) (pv 0) Zab (fun _ _ => rfl)))
 case' baq => intro cl C fp pins s H
 case baq => exact (ZaG (i := 0) (show ((["row"] : List Str) ++ ([] : List Str)).Nodup by decide +kernel) rfl (Or.inl rfl))
 case' bar => intro cl C fp pins s H
 case bar => exact ZbH
 case' bas => intro cl C fp pins s H
 case' bas => refine' ZaK ?bat ?bau ?bav ?baw
 case bat => exact Cshown_row
 case bau => exact (hr.mono (by first | decide | lia))
 case bav => exact (by rfl)
 case' baw => refine' Zau ?bax ?bay
 case bax => exact (Zao (k_ix (K := K) rfl) (pv 0) Zab (fun _ _ => rfl))
 case bay => exact (ZaB (ZaK Cnumbers_of (hr.mono (by first | decide | lia)) (by rfl) (Zaa (pv 0) Zad)) Zad)
 walk_at "rd"
 refine Zce ht fun p1 H1 hp1 s1 => ?_
 walk_at "rd"
 refine use2 ⟨defW, p1, [d.1, d.2.1], rfl, by decide, rfl, hp1, by simp, ?_, fun H2 s2 => ?_⟩
 ·intro n hn
  simp only [List.mem_cons, List.not_mem_nil, or_false] at hn
  rcases hn with rfl | rfl
  ·exact DT.r.takes
  ·exact DT.r.boxes
 walk_at "rd"
 walk_at "mk"; intro p3 hp3
 have s3 := Same.new (o := .lst [V.str (Zgm d)]) hp3
 have e3 : upd H2 p3 (.lst [V.str (Zgm d)]) p3 = some (.lst [V.str (Zgm d)]) := Zac
 change Same H2 (upd H2 p3 (.lst [V.str (rowT defW [d.1, d.2.1])])) at s3
 change upd H2 p3 (.lst [V.str (rowT defW [d.1, d.2.1])]) p3 = _ at e3
 generalize upd H2 p3 (.lst [V.str (rowT defW [d.1, d.2.1])]) = H3 at s3 e3
 have s03 := (s1.trans s2).trans s3
 walk_at "rd"
 refine Za6 (s03 _ _ ht) (v := .ref q) (ZaV (n := 2) rfl rfl) ?_
 refine Zct (SqL.of (s03 _ _ hq)) ?_
 refine ZcK (xs := ys) (Zax (by lia)) (fun i zs σ Hy => An3 (∃ x1, σ = [x1]) (Same H3 Hy) (zs = ((d.2.2.take i).map fun (r : Str × List D) => rowT r.1 (L2.ZbE r)).map V.str)) ⟨⟨none, rfl⟩, Same.refl _, rfl⟩ (fun i zs σ Hy _ z_ => by obtain ⟨_, s4, _⟩ := z_; exact SqL.of (s4 _ _ (s03 _ _ hq))) ?_ ?_
 ·rintro i x zs σ Hy hx hle hlt ⟨⟨x1, rfl⟩, s4, rfl⟩
  obtain ⟨d', ed, rd'⟩ := rr.get' hx
  rw [List.getElem?_map] at ed
  obtain ⟨r, er, rfl⟩ := Option.map_eq_some_iff.mp ed
  have hr := DT.r.rows r (List.mem_of_getElem? er)
  have hm := DT.m r (List.mem_of_getElem? er)
  have rd4 := rd'.mono (s03.trans s4).ts
  obtain ⟨a, xs', rfl, ha, rx0⟩ := Zaz (show Rep Hy (.tup (.str r.1 :: r.2)) x from rd4)
  obtain ⟨u, xs, rfl, ru, rx⟩ := Zat rx0
  obtain rfl : u = .str r.1 := by rwa [Rep] at ru
  walk_at "rd"
  refine Za6 ha (v := .str r.1) (ZaV (n := 0) rfl rfl) ?_
  walk_at "rd"
  refine use1 ⟨r, rd4, hr, by lia, fun t5 H5 h5 s5 => ?_⟩
  walk_at "rd"
  refine use2 ⟨r.1, t5, L2.ZbE r, rfl, (Zc4 hr.row).2.2, rfl, h5, by lia, hr.num, fun H6 s6 => ?_⟩
  refine ⟨hlt, by simpa using hle, ⟨_, rfl⟩, (s4.trans s5).trans s6, ?_⟩
  rw [List.take_add_one, er]
  simp
 rintro zs σ Hy _ ⟨⟨x1, rfl⟩, s4, rfl⟩ p5 hp5
 have e0 : (d.2.2.take ys.length) = d.2.2 := by rw [<- hyl, List.take_length]
 rw [e0] at *
 generalize hzs : (d.2.2.map fun (r : Str × List D) => rowT r.1 (L2.ZbE r)) = zs at *
 have s5 := Same.new (o := .lst (zs.map V.str)) hp5
 have e5 : upd Hy p5 (.lst (zs.map V.str)) p5 = some (.lst (zs.map V.str)) := Zac
 generalize upd Hy p5 (.lst (zs.map V.str)) = H5 at s5 e5
 have hzl : zs.length = d.2.2.length := by rw [<- hzs, List.length_map]
 refine ZcH (s5 _ _ (s4 _ _ e3)) e5 (Zax (by simp; lia)) fun p6 hp6 => ?_
 refine k p6 _ ?_ (((s03.trans s4).trans s5).trans (Same.new hp6))
 rw [Zac]
 unfold defL
 rw [hzs]
 rfl
inductive Pr_shown (x : V) (H : Hp) (Q : VK) : Prop
 | mk (p vs ds) (_ : x = .ref p) (_ : H p = some (.lst vs)) (_ : DefsAt [] H ds vs) (_ : ∀ d ∈ ds, DefT d) (_ : ((ds.map defL).flatten).length <= 300) (_ : ∀ H', Same H H' -> Q (.str (Zga ds)) H') : Pr_shown x H Q
noncomputable def ZjX : Sp := sp1 (Pr_shown)
theorem Zg9 {c : Nat} {ls : List Str} (h : ∀ l ∈ ls, l.length <= c) : (Str.join feed ls).length <= (c + 1) * ls.length := by
 have h1 := StrLaws.join_length_le feed ls
 have h2 := Zh6 h
 have h3 : feed.length = 1 := by decide
 rw [h3] at h1
 rw [Nat.add_mul]
 lia
theorem sc_shown : FnScope ["program"] ["program"] (Zag ZcD) := ⟨rfl, rfl, rfl, by decide +kernel, rfl, by decide +kernel, by decide +kernel⟩
theorem ZmQ (B : Blt mg) (T_shown : TopFn K mg "shown" ZcD ["program"]) (Cshown_def : Callee P w K mg base "shown_def" 2 ["one"] ZdE) : Callee P w K mg base "shown" 3 ["program"] ZjX := by
  refine T_shown.ok1 sc_shown fun f cdv A outer s H v1 Q E hr h => ?_
  have nd := sc_shown.nd
  obtain ⟨p, vs, ds, rfl, hp, D0, DT, hn, k⟩ := h
  have hlv := D0.length
  have hdl : ds.length <= ((ds.map defL).flatten).length := by
    clear hn k D0 hlv DT
    induction ds with
    | nil => exact Nat.le_refl _
    | cons d ds ih =>
      rw [List.map_cons, List.flatten_cons, List.length_append]
      simp only [List.length_cons, defL]
      lia
  have hall : ∀ l ∈ (ds.map defL).flatten, l.length <= 3200 := by
    intro l hl
    obtain ⟨m, hm, hl⟩ := List.mem_flatten.mp hl
    obtain ⟨d, hd, rfl⟩ := List.mem_map.mp hm
    exact ZdY (DT d hd) l hl
  refine' ZaI [some (.ref p)] rfl ?hb ?hg
  case' hb => refine' Zaf ?bab
  case' bab => refine' Zan ?bac
  case' bac => refine' k_bm (K := K) ?bad ?bae ?baf ?bag ?bah ?bai ?baj
  case bad => exact rfl
  case bae => exact PySem.F.plainAttrs_str
  case baf => exact PySem.F.slot_str_join
  case bag => exact PySem.F.type_str_join
  case bah => exact (Zi7 (K := K) rfl)
  case bai => exact Zaw
  case' baj => refine' Zcf ?bak ?bal
  case' bak => refine' ZbY (LN := ["one"]) (FN := []) (fr := []) ?bam ?ban ?bao ?bap ?baq ?bar
  case bam => exact rfl
  case ban => exact (ZcZ (by rfl))
  case bao => exact (Zbh (K := K) rfl (pv 0))
  case' bap => intro cl C fp pins s H
  case bap => exact (ZaG (i := 0) (show ((["one"] : List Str) ++ ([] : List Str)).Nodup by decide +kernel) rfl (Or.inl rfl))
  case' baq => intro cl C fp pins s H
  case baq => exact ZbH
  case' bar => intro cl C fp pins s H
  case' bar => refine' k_bm (K := K) ?bas ?bat ?bau ?bav ?baw ?bax ?bay
  case bas => exact rfl
  case bat => exact PySem.F.plainAttrs_str
  case bau => exact PySem.F.slot_str_join
  case bav => exact PySem.F.type_str_join
  case baw => exact (Zi7 (K := K) rfl)
  case bax => exact Zaw
  case bay => exact (ZaB (ZaK Cshown_def (hr.mono (by first | decide | lia)) (by rfl) (Zaa (pv 0) Zad)) Zad)
  case bal => exact Zad
  walk_at "rd"
  refine ⟨rfl, ?_⟩
  walk_at "rd"
  refine Zct (SqL.of hp) ?_
  refine ZcK (xs := vs) (Zax (by lia)) (fun i zs σ Hy => An3 (∃ x1, σ = [x1]) (Same H Hy) (zs = ((ds.take i).map fun d => Str.join feed (defL d)).map V.str)) ⟨⟨none, rfl⟩, Same.refl _, rfl⟩ (fun i zs σ Hy _ z_ => by obtain ⟨_, s1, _⟩ := z_; exact SqL.of (s1 _ _ hp)) ?_ ?_
  · rintro i x zs σ Hy hx hle hlt ⟨⟨x1, rfl⟩, s1, rfl⟩
    obtain ⟨d, ed, DA⟩ := D0.get hx
    have hd := DT d (List.mem_of_getElem? ed)
    walk_at "rd"
    refine ⟨rfl, ?_⟩
    walk_at "rd"
    refine use1 ⟨d, DA.by (fun a xs _ e => s1 _ _ e) s1.ts, hd, fun p2 H2 h2 s2 => ?_⟩
    have h3 := Zh6 (ZdY hd)
    have h4 : (defL d).length <= ((ds.map defL).flatten).length := by
      have : List.Sublist (defL d) ((ds.map defL).flatten) := List.sublist_flatten_of_mem (List.mem_map.mpr ⟨d, List.mem_of_getElem? ed, rfl⟩)
      exact this.length_le
    walk_at "rd"
    refine Zf7 (zs := defL d) (SqL.of h2) (by decide) (by lia) ?_
    refine ⟨hlt, by simpa using hle, ⟨_, rfl⟩, s1.trans s2, ?_⟩
    rw [List.take_add_one, ed]
    simp
    rfl
  rintro zs σ Hy hyy ⟨⟨x1, rfl⟩, s1, rfl⟩ p2 hp2
  clear hyy
  have e0 : (ds.take vs.length) = ds := by rw [<- hlv, List.take_length]
  rw [e0]
  have hs2 : ((ds.map fun d => Str.join feed (defL d)).map (·.length)).sum <= 3201 * ((ds.map defL).flatten).length := by
    clear hdl hn k D0 hlv e0 hp2 s1 hp
    induction ds with
    | nil => exact Nat.le_refl _
    | cons d ds ih =>
      have h1 := Zg9 (ZdY (DT d List.mem_cons_self))
      have h2 := ih (fun x hx => DT x (List.mem_cons_of_mem _ hx)) (fun l hl => hall l (by rw [List.map_cons, List.flatten_cons]; exact List.mem_append_right _ hl))
      rw [List.map_cons, List.map_cons, List.sum_cons, List.map_cons, List.flatten_cons, List.length_append, Nat.mul_add]
      exact Nat.add_le_add h1 h2
  walk_at "rd"
  refine Zf7 (zs := ds.map fun d => Str.join feed (defL d)) (SqL.of Zac) (by decide) (by rw [List.length_map]; lia) ?_
  exact k _ (s1.trans (Same.new hp2))
noncomputable def Zei (z : Str) : Prop := z.cps.all (· < 128) = true
theorem asc_mem {z : Str} : Zei z ↔ ∀ c ∈ cs z, c < 128 := by
 unfold Zei
 rw [<- Array.all_toList, List.all_eq_true]
 simp
theorem Zkx {c : TT} {ta tb : TE} {σ : St} {H : Hp} {Q : VK} (I : V -> Prop) (hI : ∀ v, I v -> Q v H) (h : ∀ N : VK, (∀ v, I v -> N v H) -> tIf c ta tb σ H N) : tIf c ta tb σ H Q := h Q hI
theorem ZeP {n : Nat} (h : n <= 1000000) : n <= PySem.sizeLine := by rw [PySem.sizeLine_eq]; lia
theorem Zj8 {H : Hp} {x : Str} {Q : VK} (h : x.length <= PySem.sizeLine) (q : Q (.int x.length) H) : rLen K [.str x] H Q := ⟨_, _, rfl, ⟨h, rfl⟩, q⟩
inductive Pr_read_whole (x y : V) (H : Hp) (Q : VK) : Prop
 | mk (z most n) (_ : x = .str z) (_ : y = .int (most : Nat)) (_ : most <= 600) (_ : z.length <= 900000) (_ : Zei z) (_ : ZbZ most z = some n) (_ : ∀ H', Same H H' -> Q (.int n) H') : Pr_read_whole x y H Q
noncomputable def Zc7 : Sp := sp2 (Pr_read_whole)
theorem sc_read_whole : FnScope ["text", "most", "figures"] ["text", "most"] (Zag Zbi) := ⟨rfl, rfl, rfl, by decide +kernel, rfl, by decide +kernel, by decide +kernel⟩
theorem ZfM (B : Blt mg) (G : Glb K w mg) (T_read_whole : TopFn K mg "read_whole" Zbi ["text", "most"]) : Callee P w K mg base "read_whole" 1 ["text", "most"] Zc7 := by
  refine T_read_whole.ok2 sc_read_whole fun f cdv A outer s H v1 v2 Q E hr h => ?_
  have nd := sc_read_whole.nd
  obtain ⟨z, most, n, rfl, rfl, hm, hz, az, hw, k⟩ := h
  have no : ZbZ most z = none -> False := fun e => by rw [e] at hw; cases hw
  have hl := ZcT z
  refine' ZaI [some (.str z), some (.int (most : Nat)), none] rfl ?hb ?hg
  case' hb => refine' Zae ?bab ?bac
  case' bab => refine' Zdb (i := 2) ?bad ?bae ?baf ?bag
  case bad => exact nd
  case bae => exact rfl
  case baf => exact (Or.inl rfl)
  case' bag => refine' Zko ?bah ?bai ?baj
  case bah => exact (Zbm (k_bm (K := K) rfl PySem.F.plainAttrs_str PySem.F.slot_str_startswith PySem.F.type_str_startswith ZiU (pv 0) (Zah Zaw Zad)))
  case bai => exact (ZaC sl_str (pv 0) (ZaJ Zab) ZaM)
  case baj => exact (pv 0)
  case' bac => refine' Zae ?bak ?bal
  case' bak => refine' ZaF ?bam ?ban ?bao
  case' bam => refine' Zb1 ?bap
  case' bap => refine' PW.pt ?baq
  case' baq => refine' Zb0 ?bar ?bas
  case bar => exact (ZgT Zdt Zdt Zab (Zai (Zbt (K := K) rfl) (by rfl) B.b_len ZaW (Zaa (pv 2) Zad)) (pv 1))
  case' bas => refine' ZbV ?bat
  case' bat => refine' Zbm ?bau
  case' bau => refine' Zai ?bav ?baw ?bax ?bay ?baz
  case bav => exact (ZhA (K := K) rfl rfl)
  case baw => exact (by rfl)
  case bax => exact B.b_all
  case bay => exact ZeO
  case' baz => refine' Zcf ?bba ?bbb
  case' bba => refine' ZbY (LN := ["sign"]) (FN := []) (fr := []) ?bbc ?bbd ?bbe ?bbf ?bbg ?bbh
  case bbc => exact rfl
  case bbd => exact (ZcZ (by rfl))
  case bbe => exact (Zg7 (K := K) rfl (pv 2))
  case' bbf => intro cl C fp pins s H
  case bbf => exact (ZaG (i := 0) (show ((["sign"] : List Str) ++ ([] : List Str)).Nodup by decide +kernel) rfl (Or.inl rfl))
  case' bbg => intro cl C fp pins s H
  case bbg => exact ZbH
  case' bbh => intro cl C fp pins s H
  case bbh => exact (Zcm op_inS (pv 0) (Zmi (by rfl) G.c_FIGURES) (by with_unfolding_all rfl))
  case bbb => exact Zad
  case ban => exact (Zaf Zcv)
  case bao => exact Zam
  case' bal => refine' Zae ?bbi ?bbj
  case' bbi => refine' ZaF ?bbk ?bbl ?bbm
  case bbk => exact (PW.pt (Zb0 (Zal Za1 (Zao Zja (pv 2) Zab (fun _ _ => rfl)) Zaw (Zar _)) (ZbV (Zal Ze0 (pv 0) Zaw (Zar _)))))
  case bbl => exact (Zaf Zcv)
  case bbm => exact Zam
  case bbj => exact (Zaf (Zan (ZbR ZjB (by rfl) B.b_int ZfQ (Zaa (pv 0) Zad))))
  refine Zk7 ?_
  refine Zix ?_
  refine Zkx (fun v => ∃ fz : Str, An3 (v = .str fz) (cs fz = figT z) (Zei fz)) ?_ fun N hN => ?_
  rotate_left
  · walk_at "rd"
    refine ⟨rfl, ?_⟩
    walk_at "rd"
    rw [show Txt.startswith z (Str.ofString "-") = decide ((cs z).head? = some 45) from Zfm z]
    refine Zav (fun hd => ?_) (fun hd => ?_)
    · walk_at "rd"
      have h1 : 1 <= z.length := by
        rw [<- hl]
        cases ez : cs z with
        | nil => rw [ez] at hd; cases hd
        | cons c r => simp
      have es : cs (Txt.slice z (some 1) none) = figT z := by
        rw [Zk2 z h1]
        unfold figT
        rw [if_pos hd]
      refine ⟨z, rfl, (ZeP (by lia)), hN _ ⟨_, rfl, es, asc_mem.mpr fun c hc => ?_⟩⟩
      rw [Zk2 z h1] at hc
      exact asc_mem.mp az c (List.mem_of_mem_drop hc)
    · walk_at "rd"
      exact hN _ ⟨z, rfl, by unfold figT; rw [if_neg hd], az⟩
  rintro v ⟨fz, rfl, ef, af⟩
  have hfl := ZcT fz
  have hfz : fz.length <= 900000 := by
    rw [<- hfl, ef]
    unfold figT
    split
    · rw [List.length_drop]; lia
    · lia
  have bad : ¬ ((1 <= (figT z).length /\ (figT z).length <= most) /\ (figT z).all Zcs = true) -> False := fun h => no (by unfold ZbZ; rw [if_neg h])
  walk_at "rd"
  refine Zj8 ((ZeP (by lia))) ?_
  walk_at "rd"
  refine Zav (fun h1 => ?_) (fun h1 => ?_)
  rotate_left
  · walk_at "rd"
    exact bad fun h => h1 (by rw [<- ef, hfl] at h; lia)
  walk_at "rd"
  refine Zav (fun h2 => ?_) (fun h2 => ?_)
  rotate_left
  · walk_at "rd"
    exact bad fun h => h2 (by rw [<- ef, hfl] at h; lia)
  walk_at "rd"
  refine Zir ?_
  walk_at "rd"
  refine ⟨fz, rfl, af, ?_⟩
  refine cw_str ((ZeP (by show fz.length <= _; lia))) (fun i ys σ Hy => An3 (∃ x1, σ = [x1]) (Hy = H) (ys = ((cs fz).take i).map fun c => V.bl (Zcs c))) ⟨⟨none, rfl⟩, rfl, rfl⟩ ?_ ?_
  · rintro i c ys σ Hy hc hle hlt ⟨⟨x1, rfl⟩, rfl, rfl⟩
    walk_at "rd"
    refine ZlZ ?_
    refine ⟨hlt, by simpa using hle, ⟨_, rfl⟩, rfl, ?_⟩
    have hc' : (cs fz)[i]? = some c := by rw [Array.getElem?_toList]; exact hc
    rw [List.take_add_one, hc']
    have : Zcs c = decide (c ∈ (Str.ofString "0123456789").cps.toList) := fig_in c
    simp [this]
  rintro ys σ Hy _ ⟨⟨x1, rfl⟩, rfl, rfl⟩ p hp
  rw [show fz.cps.size = (cs fz).length from hfl.symm, List.take_length]
  have s1 := Same.new (o := .lst ((cs fz).map fun c => V.bl (Zcs c))) hp
  have e1 : upd Hy p (.lst ((cs fz).map fun c => V.bl (Zcs c))) p = some (.lst ((cs fz).map fun c => V.bl (Zcs c))) := Zac
  generalize upd Hy p (.lst ((cs fz).map fun c => V.bl (Zcs c))) = H1 at s1 e1
  walk_at "rd"
  refine ⟨p, (cs fz).map Zcs, rfl, SqL.of (by rw [e1, List.map_map]; rfl), ?_⟩
  walk_at "rd"
  have ea : ((cs fz).map Zcs).all id = (figT z).all Zcs := by rw [ef, List.all_map]; rfl
  rw [ea]
  cases hall : (figT z).all Zcs with
  | false =>
    walk_at "rd"
    exact bad fun h => by rw [hall] at h; exact absurd h.2 (by decide)
  | true =>
    walk_at "rd"
    have hcond : (1 <= (figT z).length /\ (figT z).length <= most) /\ (figT z).all Zcs = true := ⟨by rw [<- ef, hfl]; lia, hall⟩
    obtain ⟨c, r, ec⟩ : ∃ c r, cs fz = c :: r := by
      cases h : cs fz with
      | nil => rw [h] at hfl; simp at hfl; lia
      | cons c r => exact ⟨c, r, rfl⟩
    refine ⟨fz, 0, c, rfl, rfl, (ZeP (by lia)), ZaV (n := 0) rfl (by show (cs fz)[0]? = _; rw [ec]; rfl), ?_⟩
    walk_at "rd"
    obtain ⟨hzl, n', hn'⟩ := Zhl hm hcond.1 hcond.2
    have fin : ¬ ((figT z).head? = some 48 /\ cs z ≠ [48]) -> n' = n := fun h => by
      have : ZbZ most z = intText? z := by unfold ZbZ; rw [if_pos hcond, if_neg h]
      rw [hw, hn'] at this
      exact (Option.some.inj this).symm
    have hz0 : z = Str.ofString "0" ↔ cs z = [48] := ⟨fun e => by rw [e]; decide, fun e => Zjr (by rw [e]; decide)⟩
    have hc0 : (⟨#[c]⟩ : Str) = Str.ofString "0" ↔ (figT z).head? = some 48 := by
      rw [<- ef, ec]
      constructor
      · intro e
        have := congrArg cs e
        have h2 : [c] = [48] := this.trans (by decide)
        rw [(List.cons.inj h2).1]
        rfl
      · intro e
        cases e
        decide
    refine Zav (fun h3 => ?_) (fun h3 => ?_)
    · walk_at "rd"
      refine ZdN (fun h4 => ?_) (fun h4 => ?_)
      · walk_at "rd"
        exact no (by unfold ZbZ; rw [if_pos hcond, if_pos ⟨hc0.mp h3, fun e => h4 (hz0.mpr e)⟩])
      · walk_at "rd"
        refine Zit hn' (by lia) ?_
        rw [fin fun h => h.2 (hz0.mp h4)]
        exact k _ s1
    · walk_at "rd"
      refine Zit hn' (by lia) ?_
      rw [fin fun h => h3 (hc0.mpr h.1)]
      exact k _ s1
inductive Pr_read_head (x : V) (H : Hp) (Q : VK) : Prop
 | mk (a ns) (_ : x = .ref a) (_ : H a = some (.lst (ns.map V.int))) (_ : ns.length <= 1000000) (t b : Int) (_ : ns = [t, b]) (_ : ∀ p q H', H' p = some (.tup [.int t, .int b, .ref q]) -> H' q = some (.lst []) -> H q = none -> Same H H' -> Q (.ref p) H') : Pr_read_head x H Q
noncomputable def ZdF : Sp := sp1 (Pr_read_head)
theorem sc_read_head : FnScope ["numbers"] ["numbers"] (Zag Zbw) := ⟨rfl, rfl, rfl, by decide +kernel, rfl, by decide +kernel, by decide +kernel⟩
theorem Zgt (B : Blt mg) (T_read_head : TopFn K mg "read_head" Zbw ["numbers"]) : Callee P w K mg base "read_head" 1 ["numbers"] ZdF := by
 refine T_read_head.ok1 sc_read_head fun f cdv A outer s H v1 Q E hr h => ?_
 have nd := sc_read_head.nd
 obtain ⟨a, ns, rfl, ha, hl, t, b, rfl, k⟩ := h
 refine' ZaI [some (.ref a)] rfl ?hb ?hg
 case' hb => refine' Zae ?bab ?bac
 case bab => exact (ZaF (Zal Ze0 (Zai (Zbt (K := K) rfl) (by rfl) B.b_len ZaW (Zaa (pv 0) Zad)) Zab (Zar _)) (Zaf Zcv) Zam)
 case' bac => refine' Zaf ?bad
 case' bad => refine' Zan ?bae
 case' bae => refine' Za0 ?baf
 case' baf => refine' Zau ?bag ?bah
 case bag => exact (Zao (k_ix (K := K) rfl) (pv 0) Zab (fun _ _ => rfl))
 case bah => exact (Zau (Zao (k_ix (K := K) rfl) (pv 0) Zab (fun _ _ => rfl)) (ZgY (Za9 Zad) Zad))
 walk_at "rd"
 refine ZaO (SqL.of ha) ?_
 walk_at "rd"
 refine Zll (by rfl) ?_
 walk_at "rd"
 refine Zaj ha (v := .int t) (ZaV (n := 0) rfl rfl) ?_
 walk_at "rd"
 refine Zaj ha (v := .int b) (ZaV (n := 1) rfl rfl) ?_
 walk_at "rd"
 walk_at "mk"; intro q hq
 have s0 := Same.new (o := .lst []) hq
 have e0 : upd H q (.lst []) q = some (.lst []) := Zac
 generalize upd H q (.lst []) = H0 at s0 e0
 walk_at "rd"
 walk_at "mk"; intro p hp
 have s1 := Same.new (o := .tup [V.int t, V.int b, V.ref q]) hp
 exact k p q _ Zac (s1 _ _ e0) hq (s0.trans s1)
theorem Zej {H : Hp} : ∀ (ns : List Int), Reps H (ns.map D.int) (ns.map V.int)
 | [] => ZaE
 | n :: ns => Zap Zbq (Zej ns)
inductive Pr_read_call (x : V) (H : Hp) (Q : VK) : Prop
 | mk (a ns) (_ : x = .ref a) (_ : H a = some (.lst (ns.map V.int))) (_ : ns.length <= 1000000) (c b : Int) (qs : List Int) (_ : ns = c :: b :: qs) (_ : ∀ v H', Rep H' (rowD (Zcy, [.int c, .int b, .tup (qs.map D.int)])) v -> Same H H' -> Q v H') : Pr_read_call x H Q
noncomputable def ZdG : Sp := sp1 (Pr_read_call)
theorem sc_read_call : FnScope ["numbers"] ["numbers"] (Zag Zbx) := ⟨rfl, rfl, rfl, by decide +kernel, rfl, by decide +kernel, by decide +kernel⟩
theorem Zgu (B : Blt mg) (T_read_call : TopFn K mg "read_call" Zbx ["numbers"]) : Callee P w K mg base "read_call" 1 ["numbers"] ZdG := by
 refine T_read_call.ok1 sc_read_call fun f cdv A outer s H v1 Q E hr h => ?_
 have nd := sc_read_call.nd
 obtain ⟨a, ns, rfl, ha, hl, c, b, qs, rfl, k⟩ := h
 simp only [List.length_cons] at hl
 refine' ZaI [some (.ref a)] rfl ?hb ?hg
 case' hb => refine' Zae ?bab ?bac
 case bab => exact (ZaF (Zal ZiO (Zai (Zbt (K := K) rfl) (by rfl) B.b_len ZaW (Zaa (pv 0) Zad)) Zab (Zar _)) (Zaf Zcv) Zam)
 case' bac => refine' Zaf ?bad
 case' bad => refine' Zan ?bae
 case' bae => refine' Za0 ?baf
 case' baf => refine' Zah ?bag ?bah
 case bag => exact Zaw
 case' bah => refine' Zau ?bai ?baj
 case bai => exact (Zao (k_ix (K := K) rfl) (pv 0) Zab (fun _ _ => rfl))
 case' baj => refine' Zau ?bak ?bal
 case bak => exact (Zao (k_ix (K := K) rfl) (pv 0) Zab (fun _ _ => rfl))
 case' bal => refine' ZaB ?bam ?ban
 case bam => exact (ZbR (Zgi (K := K) rfl) (by rfl) B.b_tuple ZbX (Zau (ZaC (k_sl (K := K) rfl) (pv 0) (ZaJ Zab) ZaM) Zad))
 case ban => exact Zad
 walk_at "rd"
 refine ZaO (SqL.of ha) ?_
 walk_at "rd"
 refine Zav (fun h1 => ?_) (fun h1 => ?_)
 ·simp only [List.length_map, List.length_cons] at h1
  lia
 walk_at "rd"
 refine Zaj ha (v := .int c) (ZaV (n := 0) rfl rfl) ?_
 walk_at "rd"
 refine Zaj ha (v := .int b) (ZaV (n := 1) rfl rfl) ?_
 walk_at "rd"
 refine ZgR (SqL.of ha) fun p2 hp2 => ?_
 have ec : cutV ((c :: b :: qs).map V.int) (some 2) none = qs.map V.int := Zch (k := 2) (by simp)
 rw [ec]
 have s2 := Same.new (o := .lst (qs.map V.int)) hp2
 have e2 : upd H p2 (.lst (qs.map V.int)) p2 = some (.lst (qs.map V.int)) := Zac
 generalize upd H p2 (.lst (qs.map V.int)) = H2 at s2 e2
 walk_at "rd"
 refine Zf3 (SqL.of e2) fun p3 hp3 => ?_
 have s3 := Same.new (o := .tup (qs.map V.int)) hp3
 have e3 : upd H2 p3 (.tup (qs.map V.int)) p3 = some (.tup (qs.map V.int)) := Zac
 generalize upd H2 p3 (.tup (qs.map V.int)) = H3 at s3 e3
 walk_at "rd"
 walk_at "mk"; intro p4 hp4
 have s4 := Same.new (o := .tup [V.str "call", V.int c, V.int b, V.ref p3]) hp4
 refine k (.ref p4) _ ?_ ((s2.trans s3).trans s4)
 exact ZbP Zac (Zap (by rw [Rep]; rfl) (Zap Zbq (Zap Zbq (Zap (ZbP (s4 _ _ e3) (Zej qs)) ZaE))))
inductive Pr_read_row (x y : V) (H : Hp) (Q : VK) : Prop
 | mk (wd a ns) (_ : x = .str wd) (_ : y = .ref a) (_ : H a = some (.lst (ns.map V.int))) (_ : ns.length <= 999000) (r) (_ : rowP wd ns = some r) (_ : ∀ v H', Rep H' (rowD r) v -> Same H H' -> Q v H') : Pr_read_row x y H Q
noncomputable def Zd6 : Sp := sp2 (Pr_read_row)
theorem sc_read_row : FnScope ["word", "numbers"] ["word", "numbers"] (Zag ZbK) := ⟨rfl, rfl, rfl, by decide +kernel, rfl, by decide +kernel, by decide +kernel⟩
theorem ZhG (B : Blt mg) (G : Glb K w mg) (T_read_row : TopFn K mg "read_row" ZbK ["word", "numbers"]) (Cread_call : Callee P w K mg base "read_call" 1 ["numbers"] ZdG) : Callee P w K mg base "read_row" 2 ["word", "numbers"] Zd6 := by
  refine T_read_row.ok2 sc_read_row fun f cdv A outer s H v1 v2 Q E hr h => ?_
  have nd := sc_read_row.nd
  obtain ⟨wd, a, ns, rfl, rfl, ha, hl, r, er, k⟩ := h
  have no : rowP wd ns = none -> False := fun e => by rw [e] at er; cases er
  refine' ZaI [some (.str wd), some (.ref a)] rfl ?hb ?hg
  case' hb => refine' Zae ?bab ?bac
  case' bab => refine' ZaF ?bad ?bae ?baf
  case bad => exact (Zal (Zkt (K := K) (w := w) (tb := partsT) rfl rfl) (pv 0) (Zkq (K := K) (w := w) (by rfl) G.c_PARTS) (by with_unfolding_all rfl))
  case bae => exact (Zaf Zcv)
  case baf => exact Zam
  case' bac => refine' Zae ?bag ?bah
  case' bag => refine' ZaF ?bai ?baj ?bak
  case bai => exact (Zal Za1 (pv 0) Zaw (Zar _))
  case baj => exact (Zaf (Zan (ZaK Cread_call (hr.mono (by first | decide | lia)) (by rfl) (Zaa (pv 1) Zad))))
  case bak => exact Zam
  case' bah => refine' Zae ?bal ?bam
  case' bal => refine' ZaF ?ban ?bao ?bap
  case' ban => refine' Zal ?baq ?bar ?bas ?bat
  case baq => exact Ze0
  case bar => exact (Zai (Zbt (K := K) rfl) (by rfl) B.b_len ZaW (Zaa (pv 1) Zad))
  case' bas => refine' Zai ?bau ?bav ?baw ?bax ?bay
  case bau => exact (Zbt (K := K) rfl)
  case bav => exact (by rfl)
  case baw => exact B.b_len
  case bax => exact ZaW
  case bay => exact (Zau (ZgW (K := K) (w := w) (tb := partsT) rfl rfl (Zkq (K := K) (w := w) (by rfl) G.c_PARTS) (pv 0) (fun _ _ => rfl)) Zad)
  case bat => exact (Zar _)
  case bao => exact (Zaf Zcv)
  case bap => exact Zam
  case' bam => refine' Zaf ?baz
  case' baz => refine' Zan ?bba
  case' bba => refine' Zas ?bbb ?bbc ?bbd
  case bbb => exact (Zcg (K := K) rfl)
  case bbc => exact (Za0 (Zaa (pv 0) Zad))
  case bbd => exact (ZbR (Zgi (K := K) rfl) (by rfl) B.b_tuple ZbX (Zaa (pv 1) Zad))
  walk_at "rd"
  refine Zki fun cd hcd => ?_
  refine Zj5 hcd ?_
  walk_at "rd"
  cases lk : partsT.lookup wd with
  | none =>
    refine ZmA rfl ?_
    exact no (by unfold rowP; rw [lk])
  | some ks =>
    refine Zll rfl ?_
    walk_at "rd"
    refine Zav (fun hc => ?_) (fun hc => ?_)
    · walk_at "rd"
      rcases ns with _ | ⟨c, _ | ⟨b, qs⟩⟩
      · exact (no (by unfold rowP; rw [lk]; show (if wd = Zcy then _ else _) = _; rw [if_pos (show wd = Zcy from hc)])).elim
      · exact (no (by unfold rowP; rw [lk]; show (if wd = Zcy then _ else _) = _; rw [if_pos (show wd = Zcy from hc)])).elim
      · have e1 : rowP wd (c :: b :: qs) = some (Zcy, [.int c, .int b, .tup (qs.map D.int)]) := by unfold rowP; rw [lk]; show (if wd = Zcy then _ else _) = _; rw [if_pos (show wd = Zcy from hc)]
        rw [e1] at er
        obtain rfl := Option.some.inj er
        exact use1 ⟨a, _, rfl, ha, by lia, c, b, qs, rfl, fun v H' rv s' => k v H' rv s'⟩
    walk_at "rd"
    refine ZaO (SqL.of ha) ?_
    walk_at "rd"
    refine Zki fun cd2 hcd2 => ?_
    walk_at "rd"
    refine Zlr hcd2 lk fun tb htb => ?_
    walk_at "rd"
    refine Zb3 (htb _) ?_
    walk_at "rd"
    have eN : rowP wd ns = if ns.length = ks.length then some (wd, ns.map D.int) else none := by
      unfold rowP
      rw [lk]
      show (if wd = Zcy then _ else _) = _
      rw [if_neg (show ¬ wd = Zcy from hc)]
    refine ZdN (fun h1 => ?_) (fun h1 => ?_)
    · walk_at "rd"
      refine no ?_
      rw [eN, if_neg]
      intro z
      apply h1
      rw [List.length_map, List.length_map, z]
    have h2 : ns.length = ks.length := by
      rw [List.length_map, List.length_map] at h1
      lia
    rw [eN, if_pos h2] at er
    obtain rfl := Option.some.inj er
    walk_at "rd"
    walk_at "mk"; intro p1 hp1
    have s1 := Same.new (o := .tup [V.str wd]) hp1
    have e1 : upd H p1 (.tup [V.str wd]) p1 = some (.tup [V.str wd]) := Zac
    generalize upd H p1 (.tup [V.str wd]) = H1 at s1 e1
    walk_at "rd"
    refine Zf3 (SqL.of (s1 _ _ ha)) fun p2 hp2 => ?_
    have s2 := Same.new (o := .tup (ns.map V.int)) hp2
    have e2 : upd H1 p2 (.tup (ns.map V.int)) p2 = some (.tup (ns.map V.int)) := Zac
    generalize upd H1 p2 (.tup (ns.map V.int)) = H2 at s2 e2
    refine ZbF (s2 _ _ e1) e2 (by rw [List.length_map]; simp only [List.length_cons, List.length_nil]; lia) fun p3 H3 hp3 s3 => ?_
    refine k (.ref p3) H3 ?_ ((s1.trans s2).trans s3)
    exact ZbP hp3 (Zap (by rw [Rep]) (Zej ns))
inductive DefL1 (H : Hp) (d : PDef) (v : V) (l : Addr) : Prop
 | mk (t ys) (_ : v = .ref t) (_ : H t = some (.tup [.int d.1, .int d.2.1, .ref l])) (_ : H l = some (.lst ys)) (_ : Reps H (d.2.2.map rowD) ys) : DefL1 H d v l
noncomputable def DefsL (H : Hp) (ds : List PDef) (vs : List V) (ls : List Addr) : Prop := ds.length = vs.length /\ ls.length = vs.length /\ ∀ (i : Nat) d v l, ds[i]? = some d -> vs[i]? = some v -> ls[i]? = some l -> DefL1 H d v l
theorem DefL1.mono {H H' : Hp} {d : PDef} {v : V} {l : Addr} (h : DefL1 H d v l) (s : Same H H') : DefL1 H' d v l := by
 obtain ⟨t, ys, e, h1, h2, h3⟩ := h
 exact ⟨t, ys, e, s _ _ h1, s _ _ h2, h3.mono s.ts⟩
theorem DefL1.wr {H : Hp} {d : PDef} {v : V} {l a : Addr} {xs : List V} {o : HO} (h : DefL1 H d v l) (ha : H a = some (.lst xs)) (n : l ≠ a) : DefL1 (upd H a o) d v l := by
 obtain ⟨t, ys, e, h1, h2, h3⟩ := h
 have tw : TSame H (upd H a o) := TSame.wr fun zs z => by rw [ha] at z; cases z
 exact ⟨t, ys, e, tw _ _ h1, by rw [ZaH n]; exact h2, h3.mono tw⟩
theorem DefL1.at {H : Hp} {d : PDef} {v : V} {l : Addr} (h : DefL1 H d v l) : DefAt [] H d v := by
 obtain ⟨t, ys, e, h1, h2, h3⟩ := h
 exact ⟨t, l, ys, e, h1, h2, List.not_mem_nil, h3⟩
theorem DefsL.mono {H H' : Hp} {ds : List PDef} {vs : List V} {ls : List Addr} (h : DefsL H ds vs ls) (s : Same H H') : DefsL H' ds vs ls := ⟨h.1, h.2.1, fun i d v l h1 h2 h3 => (h.2.2 i d v l h1 h2 h3).mono s⟩
theorem DefsL.tail {H : Hp} {d : PDef} {ds : List PDef} {v : V} {vs : List V} {l : Addr} {ls : List Addr} (h : DefsL H (d :: ds) (v :: vs) (l :: ls)) : DefL1 H d v l /\ DefsL H ds vs ls :=
 ⟨h.2.2 0 d v l rfl rfl rfl, Nat.succ.inj h.1, Nat.succ.inj h.2.1, fun i d' v' l' h1 h2 h3 => h.2.2 (i + 1) d' v' l' h1 h2 h3⟩
theorem DefsL.at {H : Hp} : ∀ {ds : List PDef} {vs : List V} {ls : List Addr}, DefsL H ds vs ls -> DefsAt [] H ds vs
 | [], [], _, _ => rfl
 | [], _ :: _, _, h => by cases h.1
 | _ :: _, [], _, h => by cases h.1
 | _ :: _, _ :: _, [], h => by cases h.2.1
 | d :: ds, v :: vs, l :: ls, h => ⟨v, vs, rfl, h.tail.1.at, DefsL.at h.tail.2⟩
theorem DefsL.snoc {H : Hp} {ds : List PDef} {vs : List V} {ls : List Addr} {d : PDef} {v : V} {l : Addr} (h : DefsL H ds vs ls) (k : DefL1 H d v l) : DefsL H (ds ++ [d]) (vs ++ [v]) (ls ++ [l]) := by
 obtain ⟨h1, h2, h3⟩ := h
 refine ⟨by simp [h1], by simp [h2], fun i d' v' l' e1 e2 e3 => ?_⟩
 rcases Nat.lt_trichotomy i vs.length with q | q | q
 ·rw [List.getElem?_append_left (by lia)] at e1 e2 e3
  exact h3 i d' v' l' e1 e2 e3
 ·rw [List.getElem?_append_right (by lia), show i - ds.length = 0 by lia] at e1
  rw [List.getElem?_append_right (by lia), show i - vs.length = 0 by lia] at e2
  rw [List.getElem?_append_right (by lia), show i - ls.length = 0 by lia] at e3
  cases e1
  cases e2
  cases e3
  exact k
 ·rw [List.getElem?_append_right (by lia), List.getElem?_eq_none (by simp; lia)] at e2
  cases e2
theorem DefsL.front {H : Hp} {ds : List PDef} {vs : List V} {ls : List Addr} {d : PDef} {v : V} {l : Addr} (hl : ds.length = vs.length) (hm : ls.length = vs.length) (h : DefsL H (ds ++ [d]) (vs ++ [v]) (ls ++ [l])) : DefsL H ds vs ls /\ DefL1 H d v l := by
 refine ⟨⟨hl, hm, fun i d' v' l' e1 e2 e3 => ?_⟩, h.2.2 ds.length d v l (by simp) (by rw [hl]; simp) (by rw [hl, <- hm]; simp)⟩
 have q := (List.getElem?_eq_some_iff.mp e2).1
 exact h.2.2 i d' v' l' (by rw [List.getElem?_append_left (by lia)]; exact e1) (by rw [List.getElem?_append_left (by lia)]; exact e2) (by rw [List.getElem?_append_left (by lia)]; exact e3)
structure RdI (H0 H : Hp) (q : Addr) (acc : List PDef) (vs : List V) (ls : List Addr) : Prop where
 at' : H q = some (.lst vs)
 df : DefsL H acc vs ls
 nd : ls.Nodup
 nq : q ∉ ls
 new : ∀ l ∈ ls, H0 l = none
 os : ∀ a o, a ≠ q -> a ∉ ls -> H0 a = some o -> H a = some o
theorem RdI.mono {H0 H H' : Hp} {q : Addr} {acc : List PDef} {vs : List V} {ls : List Addr} (I : RdI H0 H q acc vs ls) (s : Same H H') : RdI H0 H' q acc vs ls := ⟨s _ _ I.at', I.df.mono s, I.nd, I.nq, I.new, fun a o h1 h2 h3 => s _ _ (I.os a o h1 h2 h3)⟩
theorem RdI.lst {H0 H : Hp} {q : Addr} {acc : List PDef} {vs : List V} {ls : List Addr} (I : RdI H0 H q acc vs ls) {l : Addr} (hl : l ∈ ls) : ∃ ys, H l = some (.lst ys) := by
 obtain ⟨i, hi⟩ := List.mem_iff_getElem?.mp hl
 have q := (List.getElem?_eq_some_iff.mp hi).1
 have h1 := I.df.1
 have h2 := I.df.2.1
 obtain ⟨t, ys, _, _, h, _⟩ := I.df.2.2 i _ _ l (List.getElem?_eq_getElem (by lia)) (List.getElem?_eq_getElem (by lia)) hi
 exact ⟨ys, h⟩
theorem RdI.free {H0 H : Hp} {q : Addr} {acc : List PDef} {vs : List V} {ls : List Addr} (I : RdI H0 H q acc vs ls) {l : Addr} (h : H l = none) : l ≠ q /\ l ∉ ls /\ H0 l = none := by
 have n1 : l ≠ q := fun e => by rw [e, I.at'] at h; cases h
 have n2 : l ∉ ls := fun m => by obtain ⟨ys, e⟩ := I.lst m; rw [e] at h; cases h
 refine ⟨n1, n2, ?_⟩
 cases e : H0 l with
 | none => rfl
 | some o => rw [I.os l o n1 n2 e] at h; cases h
theorem RdI.push {H0 H H' : Hp} {q : Addr} {acc : List PDef} {vs : List V} {ls : List Addr} {a b : Int} {t l : Addr} (I : RdI H0 H q acc vs ls) (hl : H l = none) (s : Same H H') (h1 : H' t = some (.tup [.int a, .int b, .ref l])) (h2 : H' l = some (.lst [])) :
  RdI H0 (upd H' q (.lst (vs ++ [.ref t]))) q (acc ++ [(a, b, [])]) (vs ++ [.ref t]) (ls ++ [l]) := by
 obtain ⟨n1, n2, n3⟩ := I.free hl
 have J := I.mono s
 have k1 : DefL1 H' (a, b, []) (.ref t) l := ⟨t, [], rfl, h1, h2, ZaE⟩
 refine ⟨Zac, DefsL.snoc ⟨J.df.1, J.df.2.1, fun i d v m e1 e2 e3 => (J.df.2.2 i d v m e1 e2 e3).wr J.at' fun z => J.nq (z ▸ List.mem_of_getElem? e3)⟩ (k1.wr J.at' n1), ?_, ?_, ?_, ?_⟩
 ·rw [List.nodup_append]
  exact ⟨J.nd, by simp, fun x hx y hy e => n2 (by rw [List.mem_singleton] at hy; rw [<- hy, <- e]; exact hx)⟩
 ·intro z
  rcases List.mem_append.mp z with z | z
  ·exact J.nq z
  ·exact n1 (List.mem_singleton.mp z).symm
 ·intro x hx
  rcases List.mem_append.mp hx with hx | hx
  ·exact J.new x hx
  ·rw [List.mem_singleton.mp hx]; exact n3
 ·intro x o hx hx' e
  rw [ZaH hx]
  exact J.os x o hx (fun z => hx' (List.mem_append_left _ z)) e
theorem RdI.row {H0 H : Hp} {q : Addr} {acc : List PDef} {vs : List V} {ls : List Addr} {d : PDef} {v : V} {l : Addr} {r : Str × List D} {y : V} (hl : acc.length = vs.length) (hm : ls.length = vs.length) (I : RdI H0 H q (acc ++ [d]) (vs ++ [v]) (ls ++ [l])) (rr : Rep H (rowD r) y) :
  ∃ ys, ys.length = d.2.2.length /\ H l = some (.lst ys) /\ RdI H0 (upd H l (.lst (ys ++ [y]))) q (acc ++ [(d.1, d.2.1, d.2.2 ++ [r])]) (vs ++ [v]) (ls ++ [l]) := by
 obtain ⟨f, t, ys, rfl, h1, h2, h3⟩ := DefsL.front hl hm I.df
 have hnl : q ≠ l := fun z => I.nq (z ▸ List.mem_append_right _ List.mem_cons_self)
 have tw : TSame H (upd H l (.lst (ys ++ [y]))) := TSame.wr fun zs z => by rw [h2] at z; cases z
 have hys := h3.length
 rw [List.length_map] at hys
 refine ⟨ys, hys.symm, h2, by rw [ZaH hnl]; exact I.at', DefsL.snoc ⟨hl, hm, fun i d' v' m e1 e2 e3 => (f.2.2 i d' v' m e1 e2 e3).wr h2 ?_⟩ ⟨t, ys ++ [y], rfl, tw _ _ h1, Zac, ?_⟩, I.nd, I.nq, I.new, fun x o hx hx' e => ?_⟩
 ·intro z
  have := (List.nodup_append.mp I.nd).2.2 m (List.mem_of_getElem? e3) l List.mem_cons_self
  exact this z
 ·show Reps _ ((d.2.2 ++ [r]).map rowD) (ys ++ [y])
  rw [List.map_append]
  exact Reps.append (h3.mono tw) (Zap (rr.mono tw) ZaE)
 ·rw [ZaH (fun z => hx' (by rw [z]; exact List.mem_append_right _ List.mem_cons_self))]
  exact I.os x o hx hx' e
noncomputable def NewPg (H H' : Hp) (q : Addr) (ds : List PDef) : Prop := H q = none /\ ∃ vs ls, RdI H H' q ds vs ls
theorem NewPg.same {H H' : Hp} {q : Addr} {ds : List PDef} (h : NewPg H H' q ds) : Same H H' := by
 obtain ⟨hq, vs, ls, I⟩ := h
 intro a o e
 refine I.os a o (fun z => by rw [z, hq] at e; cases e) (fun z => by rw [I.new a z] at e; cases e) e
theorem NewPg.at {H H' : Hp} {q : Addr} {ds : List PDef} (h : NewPg H H' q ds) : ∃ vs, H' q = some (.lst vs) /\ DefsAt [] H' ds vs := by
 obtain ⟨hq, vs, ls, I⟩ := h
 exact ⟨vs, I.at', I.df.at⟩
theorem Zlj {c x : Nat} : ∀ {ps : List (List Nat)} {p : List Nat}, p ∈ ps -> x ∈ p -> x ∈ jn c ps
  | [_], p, hp, hx => by rw [List.mem_singleton.mp hp] at hx; exact hx
  | a :: b :: r, p, hp, hx => by
    show x ∈ a ++ c :: jn c (b :: r)
    rcases List.mem_cons.mp hp with rfl | hp
    · exact List.mem_append_left _ hx
    · exact List.mem_append_right _ (List.mem_cons_of_mem _ (Zlj hp hx))
theorem Zlk {c : Nat} : ∀ {ps : List (List Nat)} {p : List Nat}, p ∈ ps -> p.length <= (jn c ps).length
  | [_], p, hp => by rw [List.mem_singleton.mp hp]; exact Nat.le_refl _
  | a :: b :: r, p, hp => by
    show _ <= (a ++ c :: jn c (b :: r)).length
    rw [List.length_append, List.length_cons]
    rcases List.mem_cons.mp hp with rfl | hp
    · lia
    · have := Zlk (c := c) hp
      lia
theorem Zdn {z p : Str} {c : Nat} (h : p ∈ Txt.split z ⟨#[c]⟩) : (∀ x ∈ cs p, x ∈ cs z) /\ p.length <= z.length := by
 have e := congrArg cs (StrLaws.join_split z ⟨#[c]⟩)
 rw [ZcX] at e
 have hm : cs p ∈ (Txt.split z ⟨#[c]⟩).map cs := List.mem_map.mpr ⟨p, h, rfl⟩
 refine ⟨fun x hx => by rw [<- e]; exact Zlj hm hx, ?_⟩
 have := Zlk (c := c) hm
 rw [e, ZcT, ZcT] at this
 exact this
theorem Zhj {z p : Str} {c : Nat} (h : p ∈ Txt.split z ⟨#[c]⟩) (a : Zei z) : Zei p := asc_mem.mpr fun x hx => asc_mem.mp a x ((Zdn h).1 x hx)
theorem Zji {α β : Type} {f : β -> α -> Option β} {l m : List α} {b : β} (h : l.foldlM f b = none) : (l ++ m).foldlM f b = none := by
 rw [List.foldlM_append, h]
 rfl
theorem Zh0 {α β : Type} {f : β -> α -> Option β} {l : List α} {b : β} {i : Nat} (h : (l.take i).foldlM f b = none) : l.foldlM f b = none := by
 rw [<- List.take_append_drop i l]
 exact Zji h
theorem ZfE {α β : Type} {f : β -> α -> Option β} {l : List α} {b c : β} {i : Nat} {x : α} (hx : l[i]? = some x) (h : (l.take i).foldlM f b = some c) : (l.take (i + 1)).foldlM f b = f c x := by
 rw [List.take_add_one, hx, List.foldlM_append, h]
 show (f c x >>= pure) = _
 exact bind_pure _
theorem ZiV {α β : Type} {f : α -> Option β} {l : List α} {r : List β} {i : Nat} {x : α} (hx : l[i]? = some x) (h : (l.take i).mapM f = some r) : (l.take (i + 1)).mapM f = (f x).map fun y => r ++ [y] := by
 rw [List.take_add_one, hx, List.mapM_append, h]
 show (some r >>= fun xs => ([x] : List α).mapM f >>= fun ys => pure (xs ++ ys)) = _
 rw [List.mapM_cons, List.mapM_nil]
 cases f x <;> rfl
theorem ZiW {α β : Type} {f : α -> Option β} {l : List α} {i : Nat} (h : (l.take i).mapM f = none) : l.mapM f = none := by
 rw [<- List.take_append_drop i l, List.mapM_append, h]
 rfl
theorem ZkA {acc : List PDef} {line w0 : Str} {ws : List Str} (h : Txt.split line blank = w0 :: ws) : ZcJ acc line = match ws.mapM (ZbZ 60) with | none => none | some ns => Zge acc w0 ns := by
 unfold ZcJ
 first
  | (rw [h]; done)
  | (rw [h]; rfl)
inductive Pr_read (x : V) (H : Hp) (Q : VK) : Prop
 | mk (z ds) (_ : x = .str z) (_ : z.length <= 900000) (_ : Zei z) (_ : Zf2 z = some ds) (_ : ∀ q H', NewPg H H' q ds -> Q (.ref q) H') : Pr_read x H Q
noncomputable def ZlB : Sp := sp1 (Pr_read)
theorem sc_read : FnScope ["text", "program", "line", "words", "numbers"] ["text"] (Zag ZdL) := ⟨rfl, rfl, rfl, by decide +kernel, rfl, by decide +kernel, by decide +kernel⟩
theorem c_read (B : Blt mg) (G : Glb K w mg) (T_read : TopFn K mg "read" ZdL ["text"]) (Cread_whole : Callee P w K mg base "read_whole" 1 ["text", "most"] Zc7) (Cread_head : Callee P w K mg base "read_head" 1 ["numbers"] ZdF) (Cread_row : Callee P w K mg base "read_row" 2 ["word", "numbers"] Zd6) : Callee P w K mg base "read" 3 ["text"] ZlB := by
  refine T_read.ok1 sc_read fun f cdv A outer s H v1 Q E hr h => ?_
  have nd := sc_read.nd
  obtain ⟨z, ds, rfl, hz, az, hds, k⟩ := h
  have no : Zf2 z = none -> False := fun e => by rw [e] at hds; cases hds
  refine' ZaI [some (.str z), none, none, none, none] rfl ?hb ?hg
  case' hb => refine' Zae ?bab ?bac
  case bab => exact (Zdp (i := 1) nd rfl (Or.inl rfl) (Za9 Zad))
  case' bac => refine' Zae ?bad ?bae
  case' bad => refine' ZcA ?baf ?bag ?bah ?bai ?baj
  case baf => exact PassesOwn.never
  case bag => exact rfl
  case' bah => refine' Zbh (K := K) ?bak ?bal
  case bak => exact rfl
  case bal => exact (k_bm (K := K) rfl PySem.F.plainAttrs_str PySem.F.slot_str_split PySem.F.type_str_split Zg5 (pv 0) (Zah Zaw Zad))
  case bai => exact (ZaG (i := 2) nd rfl (Or.inl rfl))
  case' baj => refine' Zae ?bam ?ban
  case' bam => refine' Zcl (i := 3) ?bao ?bap ?baq ?bar
  case bao => exact nd
  case bap => exact rfl
  case baq => exact (Or.inl rfl)
  case bar => exact (k_bm (K := K) rfl PySem.F.plainAttrs_str PySem.F.slot_str_split PySem.F.type_str_split Zg5 (pv 2) (Zah Zaw Zad))
  case' ban => refine' Zae ?bas ?bat
  case' bas => refine' Zf9 (i := 4) (LN := ["word"]) (FN := []) (fr := []) ?bau ?bav ?baw ?bax ?bay ?baz ?bba ?bbb ?bbc
  case bau => exact rfl
  case bav => exact nd
  case baw => exact rfl
  case bax => exact rfl
  case bay => exact (ZcZ (by rfl))
  case baz => exact (Zbh (K := K) rfl (ZaC (k_sl (K := K) rfl) (pv 3) (ZaJ Zab) ZaM))
  case' bba => intro cl C fp pins s H
  case bba => exact (ZaG (i := 0) (show ((["word"] : List Str) ++ ([] : List Str)).Nodup by decide +kernel) rfl (Or.inl rfl))
  case' bbb => intro cl C fp pins s H
  case bbb => exact ZbH
  case' bbc => intro cl C fp pins s H
  case bbc => exact (ZaK Cread_whole (hr.mono (by first | decide | lia)) (by rfl) (Zaa (pv 0) (Zaa (ZcV (by rfl) G.c_MOST_FIGURES) Zad)))
  case' bat => refine' Zaf ?bbd
  case' bbd => refine' ZaF ?bbe ?bbf ?bbg
  case bbe => exact (Zal Za1 (Zao (k_ix (K := K) rfl) (pv 3) Zab (fun _ _ => rfl)) Zaw (Zar _))
  case' bbf => refine' Zaf ?bbh
  case' bbh => refine' Zdq ?bbi
  case' bbi => refine' k_bm (K := K) ?bbj ?bbk ?bbl ?bbm ?bbn ?bbo ?bbp
  case bbj => exact rfl
  case bbk => exact PySem.F.plainAttrs_list
  case bbl => exact PySem.F.slot_list_append
  case bbm => exact PySem.F.type_list_append
  case bbn => exact Zcq
  case bbo => exact (pv 1)
  case bbp => exact (ZaB (ZaK Cread_head (hr.mono (by first | decide | lia)) (by rfl) (Zaa (pv 4) Zad)) Zad)
  case' bbg => refine' Zaf ?bbq
  case' bbq => refine' ZaF ?bbr ?bbs ?bbt
  case bbr => exact (Zal Za1 (Zai (Zbt (K := K) rfl) (by rfl) B.b_len ZaW (Zaa (pv 1) Zad)) Zab (Zar _))
  case bbs => exact (Zaf Zcv)
  case' bbt => refine' Zaf ?bbu
  case' bbu => refine' Zdq ?bbv
  case' bbv => refine' k_bm (K := K) ?bbw ?bbx ?bby ?bbz ?bca ?bcb ?bcc
  case bbw => exact rfl
  case bbx => exact PySem.F.plainAttrs_list
  case bby => exact PySem.F.slot_list_append
  case bbz => exact PySem.F.type_list_append
  case bca => exact Zcq
  case bcb => exact (Zao (k_ix (K := K) rfl) (Zao (k_ix (K := K) rfl) (pv 1) (ZeZ Zc5 Zab) (fun _ _ => rfl)) Zab (fun _ _ => rfl))
  case' bcc => refine' ZaB ?bcd ?bce
  case' bcd => refine' ZaK ?bcf ?bcg ?bch ?bci
  case bcf => exact Cread_row
  case bcg => exact (hr.mono (by first | decide | lia))
  case bch => exact (by rfl)
  case bci => exact (Zau (Zao (k_ix (K := K) rfl) (pv 3) Zab (fun _ _ => rfl)) (Zaa (pv 4) Zad))
  case bce => exact Zad
  case bae => exact (Zaf (Zan (pv 1)))
  walk_at "rd"
  walk_at "mk"; intro q hq
  have s0 := Same.new (o := .lst []) hq
  have e0 : upd H q (.lst []) q = some (.lst []) := Zac
  have hos : ∀ a o, a ≠ q -> upd H q (.lst []) a = some o -> H a = some o := fun a o n e => by rw [ZaH n] at e; exact e
  have I0 : RdI H (upd H q (.lst [])) q [] [] [] := ⟨e0, ⟨rfl, rfl, fun i d v l e => (by cases e)⟩, List.nodup_nil, List.not_mem_nil, fun l hl => (by cases hl), fun a o n _ e => s0 _ _ e⟩
  generalize upd H q (.lst []) = H0 at s0 e0 hos I0
  walk_at "rd"
  refine ⟨rfl, ?_⟩
  walk_at "rd"
  refine ZgQ (by decide) (ZeP (by lia)) fun p1 hp1 => ?_
  rw [show (Str.ofString "\n") = (⟨#[10]⟩ : Str) from Zen]
  generalize hls : Txt.split z ⟨#[10]⟩ = lines
  have hll : lines.length <= 1000000 := by
    have := Zd3 z ⟨#[10]⟩
    rw [hls] at this
    lia
  have s1 := Same.new (o := .lst (lines.map V.str)) hp1
  have e1 : upd H0 p1 (.lst (lines.map V.str)) p1 = some (.lst (lines.map V.str)) := Zac
  have I1 := I0.mono s1
  have npq : p1 ≠ q := fun e => by rw [e, e0] at hp1; cases hp1
  have hp0 : H p1 = none := by
    cases e : H p1 with
    | none => rfl
    | some o => rw [s0 _ _ e] at hp1; cases hp1
  generalize upd H0 p1 (.lst (lines.map V.str)) = H1 at s1 e1 I1
  refine Zct (SqL.of e1) ?_
  refine Zdi (xs := lines.map V.str) (fun i σ Hx => Ex6 fun c2 c3 c4 acc vs ls => An7 (σ = [some (.str z), some (.ref q), c2, c3, c4]) ((lines.take i).foldlM ZcJ [] = some acc) (acc.length <= i) (∀ d ∈ acc, d.2.2.length <= i) (RdI H Hx q acc vs ls) (p1 ∉ ls) (Hx p1 = some (.lst (lines.map V.str)))) ⟨none, none, none, [], [], [], rfl, rfl, Nat.le_refl _, fun d hd => (by cases hd), I1, List.not_mem_nil, e1⟩ (fun i σ Hx _ z_ => by obtain ⟨_, _, _, _, _, _, _, _, _, _, _, _, e⟩ := z_; exact SqL.of e) ?_ ?_
  · rintro i x σ Hx hx ⟨c2, c3, c4, acc, vs, ls, rfl, hacc, hal, har, I, np, ep⟩
    rw [List.getElem?_map] at hx
    obtain ⟨line, el, rfl⟩ := Option.map_eq_some_iff.mp hx
    have hmem : line ∈ Txt.split z ⟨#[10]⟩ := by rw [hls]; exact List.mem_of_getElem? el
    have al := Zhj hmem az
    have hlz := (Zdn hmem).2
    have hil : i < lines.length := (List.getElem?_eq_some_iff.mp el).1
    have bad : ZcJ acc line = none -> False := fun e => no (by
      unfold Zf2
      rw [Zen, hls]
      exact Zh0 (i := i + 1) (by rw [ZfE el hacc]; exact e))
    have next := ZfE (f := ZcJ) el hacc
    walk_at "rd"
    refine ⟨rfl, ?_⟩
    walk_at "rd"
    refine ZgQ (by decide) (ZeP (by lia)) fun p2 hp2 => ?_
    rw [show (Str.ofString " ") = (⟨#[32]⟩ : Str) from Zdj]
    obtain ⟨w0, ws, hws⟩ : ∃ w0 ws, Txt.split line ⟨#[32]⟩ = w0 :: ws := by
      cases hws : Txt.split line ⟨#[32]⟩ with
      | nil => exact absurd hws (ZgI _ _)
      | cons w0 ws => exact ⟨w0, ws, rfl⟩
    have hwl := Zd3 line ⟨#[32]⟩
    rw [hws] at hwl ⊢
    simp only [List.length_cons] at hwl
    have s2 := Same.new (o := .lst ((w0 :: ws).map V.str)) hp2
    have e2 : upd Hx p2 (.lst ((w0 :: ws).map V.str)) p2 = some (.lst ((w0 :: ws).map V.str)) := Zac
    generalize upd Hx p2 (.lst ((w0 :: ws).map V.str)) = H2 at s2 e2
    have lineE := ZkA (acc := acc) (show Txt.split line blank = w0 :: ws by rw [Zdj]; exact hws)
    walk_at "rd"
    refine ZgR (SqL.of e2) fun p3 hp3 => ?_
    have ec : cutV ((w0 :: ws).map V.str) (some 1) none = ws.map V.str := Zch (k := 1) (by simp)
    rw [ec]
    have s3 := Same.new (o := .lst (ws.map V.str)) hp3
    have e3 : upd H2 p3 (.lst (ws.map V.str)) p3 = some (.lst (ws.map V.str)) := Zac
    generalize upd H2 p3 (.lst (ws.map V.str)) = H3 at s3 e3
    refine Zct (SqL.of e3) ?_
    refine ZcK (xs := ws.map V.str) (Zax (by rw [List.length_map]; lia)) (fun j ys σ Hy => An3 (∃ x1, σ = [x1]) (Same H3 Hy) (∃ ns : List Int, An3 ((ws.take j).mapM (ZbZ 60) = some ns) (ns.length = j) (ys = ns.map V.int))) ⟨⟨none, rfl⟩, Same.refl _, [], rfl, rfl, rfl⟩ (fun j ys σ Hy _ z_ => by obtain ⟨_, s4, _⟩ := z_; exact SqL.of (s4 _ _ e3)) ?_ ?_
    · rintro j x ys σ Hy hx hle hlt ⟨⟨x1, rfl⟩, s4, ns, hns, hnl, rfl⟩
      rw [List.getElem?_map] at hx
      obtain ⟨wd, ew, rfl⟩ := Option.map_eq_some_iff.mp hx
      have hwm : wd ∈ Txt.split line ⟨#[32]⟩ := by rw [hws]; exact List.mem_cons_of_mem _ (List.mem_of_getElem? ew)
      have hwl2 := (Zdn hwm).2
      have nx := ZiV (f := ZbZ 60) ew hns
      walk_at "rd"
      cases hv : ZbZ 60 wd with
      | none => exact (bad (by rw [lineE, ZiW (i := j + 1) (by rw [nx, hv]; rfl)])).elim
      | some n =>
        refine use2 ⟨wd, 60, n, rfl, rfl, by decide, by lia, Zhj hwm al, hv, fun H5 s5 => ?_⟩
        refine ⟨hlt, by simpa using hle, ⟨_, rfl⟩, s4.trans s5, ns ++ [n], by rw [nx, hv]; rfl, by simp [hnl], by simp⟩
    rintro ys σ Hy _ ⟨⟨x1, rfl⟩, s4, ns, hns, hnl, rfl⟩ p5 hp5
    rw [List.length_map] at hnl hns
    rw [List.take_length] at hns
    rw [hns] at lineE
    dsimp only at lineE
    have s5 := Same.new (o := .lst (ns.map V.int)) hp5
    have e5 : upd Hy p5 (.lst (ns.map V.int)) p5 = some (.lst (ns.map V.int)) := Zac
    generalize upd Hy p5 (.lst (ns.map V.int)) = H5 at s5 e5
    have s25 := ((s2.trans s3).trans s4).trans s5
    have I5 := I.mono s25
    walk_at "rd"
    refine Zaj ((s3.trans (s4.trans s5)) _ _ e2) (v := .str w0) (ZaV (n := 0) rfl rfl) ?_
    walk_at "rd"
    unfold Zge at lineE
    refine Zav (fun hd => ?_) (fun hd => ?_)
    · rw [if_pos (show w0 = defW from hd)] at lineE
      walk_at "rd"
      refine ⟨.inl ⟨rfl, vs, SqL.of I5.at'⟩, ?_⟩
      walk_at "rd"
      rcases ns with _ | ⟨t, _ | ⟨b, _ | ⟨b2, r2⟩⟩⟩
      · exact (bad lineE).elim
      · exact (bad lineE).elim
      · refine use1 ⟨p5, [t, b], rfl, e5, by simp, t, b, rfl, fun p6 l6 H6 h6 g6 n6 s6 => ?_⟩
        walk_at "rd"
        have hvl := I5.df.1
        refine Zcp (s6 _ _ I5.at') (Nat.lt_of_le_of_lt (show vs.length <= 1000000 by lia) (by rw [PySem.sizeLine_eq]; decide)) ?_
        have I6 := I5.push n6 s6 h6 g6
        have nl6 : p1 ≠ l6 := fun e => by rw [<- e, s25 _ _ ep] at n6; cases n6
        refine ⟨_, _, _, acc ++ [(t, b, [])], _, _, rfl, by rw [next, lineE], by simp; lia, fun d hd' => ?_, I6, fun hm => ?_, by rw [ZaH npq]; exact s6 _ _ (s25 _ _ ep)⟩
        · rcases List.mem_append.mp hd' with hd' | hd'
          · have := har d hd'; lia
          · rw [List.mem_singleton.mp hd']; exact Nat.zero_le _
        · rcases List.mem_append.mp hm with hm | hm
          · exact np hm
          · exact nl6 (List.mem_singleton.mp hm)
      · exact (bad lineE).elim
    · rw [if_neg (show ¬ w0 = defW from hd)] at lineE
      walk_at "rd"
      refine ZaO (SqL.of I5.at') ?_
      walk_at "rd"
      have hvl := I5.df.1
      have hvm := I5.df.2.1
      refine Zav (fun h0 => ?_) (fun h0 => ?_)
      · have : acc = [] := List.eq_nil_of_length_eq_zero (by lia)
        rw [if_pos this] at lineE
        exact (bad lineE).elim
      have hne : acc ≠ [] := fun e => h0 (by rw [e] at hvl; rw [<- hvl]; rfl)
      rw [if_neg hne] at lineE
      cases hrow : rowP w0 ns with
      | none => rw [hrow] at lineE; exact (bad lineE).elim
      | some r =>
        rw [hrow] at lineE
        have lineE : ZcJ acc line = some (ZfW acc r) := lineE
        have hvn : vs ≠ [] := fun e => hne (List.eq_nil_of_length_eq_zero (by rw [hvl, e]; rfl))
        have hln : ls ≠ [] := fun e => hvn (List.eq_nil_of_length_eq_zero (by rw [<- hvm, e]; rfl))
        obtain ⟨acc0, d, rfl⟩ : ∃ a d, acc = a ++ [d] := ⟨_, _, (List.dropLast_concat_getLast hne).symm⟩
        obtain ⟨vs0, v, rfl⟩ : ∃ a d, vs = a ++ [d] := ⟨_, _, (List.dropLast_concat_getLast hvn).symm⟩
        obtain ⟨ls0, l, rfl⟩ : ∃ a d, ls = a ++ [d] := ⟨_, _, (List.dropLast_concat_getLast hln).symm⟩
        have hv0 : acc0.length = vs0.length := by simpa using hvl
        have hm0 : ls0.length = vs0.length := by simpa using hvm
        rw [Zeu] at lineE
        obtain ⟨t, ys, rfl, ht, hlt, _⟩ := (DefsL.front hv0 hm0 I5.df).2
        walk_at "rd"
        refine Zaj I5.at' (v := .ref t) (ZkV _ _) ?_
        walk_at "rd"
        refine Za6 ht (v := .ref l) (ZaV (n := 2) rfl rfl) ?_
        refine ⟨.inl ⟨rfl, _, SqL.of hlt⟩, ?_⟩
        walk_at "rd"
        refine Zaj ((s3.trans (s4.trans s5)) _ _ e2) (v := .str w0) (ZaV (n := 0) rfl rfl) ?_
        walk_at "rd"
        refine use2 ⟨w0, p5, ns, rfl, rfl, e5, by rw [hnl]; lia, r, hrow, fun y H6 ry s6 => ?_⟩
        walk_at "rd"
        obtain ⟨ys', hyl, hl6, I6⟩ := (I5.mono s6).row hv0 hm0 ry
        have hdr := har d (List.mem_append_right _ List.mem_cons_self)
        refine Zcp hl6 (Nat.lt_of_le_of_lt (show ys'.length <= 1000000 by lia) (by rw [PySem.sizeLine_eq]; decide)) ?_
        refine ⟨_, _, _, _, _, _, rfl, by rw [next, lineE], by simp only [List.length_append, List.length_cons, List.length_nil] at hal ⊢; lia, fun d' hd' => ?_, I6, np, ?_⟩
        · rcases List.mem_append.mp hd' with hd' | hd'
          · have := har d' (List.mem_append_left _ hd'); lia
          · rw [List.mem_singleton.mp hd']
            simp only [List.length_append, List.length_cons, List.length_nil]
            lia
        · rw [ZaH (fun e => np (by rw [e]; exact List.mem_append_right _ List.mem_cons_self))]
          exact s6 _ _ (s25 _ _ ep)
  · rintro σ Hx ⟨c2, c3, c4, acc, vs, ls, rfl, hacc, hal, har, I, np, ep⟩
    walk_at "rd"
    have : acc = ds := by
      rw [List.length_map, List.take_length] at hacc
      have h2 : Zf2 z = some acc := by unfold Zf2; rw [Zen, hls]; exact hacc
      rw [hds] at h2
      exact (Option.some.inj h2).symm
    subst this
    exact k q Hx ⟨hq, vs, ls, I⟩
structure PickOk (H : Hp) (b : Addr) (p0 p1 p2 p3 p4 nm : Int) (wd : Str) : Prop where
 at_ : H b = some (.lst [.int p0, .int p1, .int p2, .int p3, .int p4, .int nm, .str wd])
 b0 : 0 <= p0 /\ p0 < 16
 b1 : 0 <= p1 /\ p1 < 6
 b2 : 0 <= p2 /\ p2 < 31
 b3 : 0 <= p3 /\ p3 < 23
 b4 : 0 <= p4 /\ p4 < 3
 bw : wd.length <= 10
 nmS : Za3 nm
theorem PickOk.mono {H H' : Hp} {b : Addr} {p0 p1 p2 p3 p4 nm : Int} {wd : Str} (h : PickOk H b p0 p1 p2 p3 p4 nm wd) (s : Same H H') : PickOk H' b p0 p1 p2 p3 p4 nm wd := ⟨s _ _ h.at_, h.b0, h.b1, h.b2, h.b3, h.b4, h.bw, h.nmS⟩
noncomputable def ZmX (m : Nat) (d : D) : Prop := ∃ ns : List Int, d = .tup (ns.map D.int) /\ ns.length <= m /\ ∀ n ∈ ns, Za3 n
theorem ZjU {H : Hp} {ns : List Int} {v : V} (r : Rep H (.tup (ns.map D.int)) v) : ∃ a, v = .ref a /\ H a = some (.tup (ns.map V.int)) := by
 obtain ⟨a, xs, rfl, ha, rx⟩ := Zaz r
 refine ⟨a, rfl, ?_⟩
 have e : xs = ns.map V.int := by
  apply List.ext_getElem?
  intro i
  have hl := rx.length
  rw [List.length_map] at hl
  by_cases h : i < xs.length
  ·obtain ⟨d, ed, rd⟩ := rx.get' (List.getElem?_eq_getElem h)
   rw [List.getElem?_map] at ed
   obtain ⟨n, en, rfl⟩ := Option.map_eq_some_iff.mp ed
   rw [List.getElem?_eq_getElem h, ZaL rd, List.getElem?_map, en]
   rfl
  ·rw [List.getElem?_eq_none (by lia), List.getElem?_eq_none (by rw [List.length_map]; lia)]
 rw [ha, e]
theorem ZcP {H : Hp} {ns : List Int} {a : Addr} (h : H a = some (.tup (ns.map V.int))) : Rep H (.tup (ns.map D.int)) (.ref a) := ZbP h (ZcF ns)
theorem Zgp {ns : List Int} {lo hi : Option Int} : ∃ ms : List Int, cutV (ns.map V.int) lo hi = ms.map V.int /\ ms.length <= ns.length /\ ∀ n ∈ ms, n ∈ ns := by
 refine ⟨(ns.drop (HT.sIx (ns.map V.int).length 0 lo)).take (HT.sIx (ns.map V.int).length (ns.map V.int).length hi - HT.sIx (ns.map V.int).length 0 lo), ?_, ?_, fun n hn => List.mem_of_mem_drop (List.mem_of_mem_take hn)⟩
 ·unfold cutV
  rw [List.map_take, List.map_drop]
 ·rw [List.length_take, List.length_drop]
  lia
theorem Zig {j : Int} (h : j.natAbs <= 1000) : j.natAbs < 2 ^ 8000 := Nat.lt_of_le_of_lt h (Nat.lt_of_lt_of_le (by decide : 1000 < 2 ^ 10) (Nat.pow_le_pow_right (by decide) (by decide)))
theorem Zii {a b : List Int} (h1 : ∀ n ∈ a, Za3 n) (h2 : ∀ n ∈ b, Za3 n) : ∀ n ∈ a ++ b, Za3 n := fun n hn => by
 rcases List.mem_append.mp hn with hn | hn
 ·exact h1 n hn
 ·exact h2 n hn
theorem ZgM {a : Int} (h : Za3 a) : ∀ n ∈ [a], Za3 n := fun n hn => by rw [List.mem_singleton.mp hn]; exact h
inductive Pr_bent_args (x y z : V) (H : Hp) (Q : VK) : Prop
 | mk (m d b p0 p1 p2 p3 p4 nm wd me) (_ : Rep H d x) (_ : ZmX m d) (_ : m <= 900) (_ : y = .ref b) (_ : PickOk H b p0 p1 p2 p3 p4 nm wd) (_ : z = .int me) (_ : Za3 me) (_ : ∀ d' v H', ZmX (2 * m + 1) d' -> Rep H' d' v -> Same H H' -> Q v H') : Pr_bent_args x y z H Q
noncomputable def ZdJ : Sp := sp3 (Pr_bent_args)
theorem sc__law_bent_args : FnScope ["args", "pick", "mend", "at"] ["args", "pick", "mend"] (Zag ZaT) := ⟨rfl, rfl, rfl, by decide +kernel, rfl, by decide +kernel, by decide +kernel⟩
theorem ZdT (B : Blt mg) (T__law_bent_args : TopFn K mg "_law_bent_args" ZaT ["args", "pick", "mend"]) : Callee P w K mg base "_law_bent_args" 1 ["args", "pick", "mend"] ZdJ := by
 refine T__law_bent_args.ok3 sc__law_bent_args fun f cdv A outer s H v1 v2 v3 Q E hr h => ?_
 have nd := sc__law_bent_args.nd
 have hu := hr.units
 obtain ⟨m, d, b, p0, p1, p2, p3, p4, nm, wd, me, rd, ⟨ns, rfl, hl, hsm⟩, hm, rfl, pk, rfl, hme, k⟩ := h
 obtain ⟨a, rfl, ha⟩ := ZjU rd
 refine' ZaI [some (.ref a), some (.ref b), some (.int me), none] rfl ?hb ?hg
 case' hb => refine' Zae ?bab ?bac
 case' bab => refine' ZaF ?bad ?bae ?baf
 case bad => exact (Zal Za1 (Zao (k_ix (K := K) rfl) (pv 1) Zab (fun _ _ => rfl)) Zab (Zar _))
 case bae => exact (Zaf (Zan (Zas (Zcg (K := K) rfl) (pv 0) (Za0 (Zaa (pv 2) Zad)))))
 case baf => exact Zam
 case' bac => refine' Zae ?bag ?bah
 case' bag => refine' ZaF ?bai ?baj ?bak
 case' bai => refine' PW.pt ?bal
 case' bal => refine' Zf8 ?bam ?ban
 case bam => exact (Zal (op_eqD hu) (pv 0) (Za0 Zad) (Zar _))
 case ban => exact (Zfp (Zal Za1 (Zas Zb2 (Zao (k_ix (K := K) rfl) (pv 1) Zab (fun _ _ => rfl)) Zab) Zab (Zar _)))
 case baj => exact (Zaf (Zan (ZaC (ZdP (K := K) rfl) (pv 0) (ZaJ Zab) ZaM)))
 case bak => exact Zam
 case' bah => refine' Zae ?bao ?bap
 case' bao => refine' Zbr (i := 3) ?baq ?bar ?bas ?bat
 case baq => exact nd
 case bar => exact rfl
 case bas => exact (Or.inl rfl)
 case' bat => refine' Zas ?bau ?bav ?baw
 case bau => exact Zb2
 case bav => exact (Zas ZdW (Zao (k_ix (K := K) rfl) (pv 1) Zab (fun _ _ => rfl)) Zab)
 case baw => exact (Zai (Zbt (K := K) rfl) (by rfl) B.b_len ZaW (Zaa (pv 0) Zad))
 case' bap => refine' Zaf ?bax
 case' bax => refine' Zan ?bay
 case' bay => refine' Zas ?baz ?bba ?bbb
 case baz => exact (Zcg (K := K) rfl)
 case bba => exact (Zas (Zcg (K := K) rfl) (ZaC (ZdP (K := K) rfl) (pv 0) ZaM (ZaJ (pv 3))) (Za0 (Zaa (pv 2) Zad)))
 case bbb => exact (ZaC (ZdP (K := K) rfl) (pv 0) (ZaJ (Zas Za8 (pv 3) Zab)) ZaM)
 walk_at "rd"
 refine Zaj pk.at_ rfl ?_
 walk_at "rd"
 refine Zav (fun e => ?_) (fun ne => ?_)
 ·walk_at "rd"
  walk_at "mk"; intro p5 hp5
  have s5 := Same.new (o := .tup [V.int me]) hp5
  have e5 : upd H p5 (.tup [V.int me]) p5 = some (.tup ([me].map V.int)) := Zac
  generalize upd H p5 (.tup [V.int me]) = H5 at s5 e5
  refine ZbF (s5 _ _ ha) e5 (by simp; lia) fun p6 H6 e6 s6 => ?_
  rw [<- List.map_append] at e6
  exact k _ _ H6 ⟨ns ++ [me], rfl, by simp; lia, Zii hsm (ZgM hme)⟩ (ZcP e6) (s5.trans s6)
 ·walk_at "rd"
  refine ⟨show 0 <= PySem.sizeLine from Nat.zero_le _, fun p5 hp5 => ?_⟩
  have s5 := Same.new (o := .tup []) hp5
  have e5 : upd H p5 (.tup []) p5 = some (.tup []) := Zac
  generalize upd H p5 (.tup []) = H5 at s5 e5
  refine ⟨ns.map D.int, [], ZcP (s5 _ _ ha), ZbP e5 ZaE, ZeY _, rfl, by rw [Zeo]; lia, ?_⟩
  have short : ∀ H', Same H H' -> ∀ Q' : VK, (∀ v, Q' v = Q v) -> rSlW K (.ref a) (some 1) none H' Q' := fun H' s' Q' hQ => Zce (s' _ _ ha) fun p6 H6 e6 s6 => by
   obtain ⟨ms, em, lm, im⟩ := Zgp (ns := ns) (lo := some 1) (hi := none)
   rw [em] at e6
   rw [hQ]
   exact k _ _ H6 ⟨ms, rfl, by lia, fun n hn => hsm n (im n hn)⟩ (ZcP e6) (s'.trans s6)
  by_cases hn : ns = []
  ·subst hn
   rw [show eqD (.tup (([] : List Int).map D.int)) (.tup []) = true from Zb4]
   walk_at "rd"
   exact short H5 s5 _ fun _ => rfl
  ·rw [ZaP (fun z => by injection z with z; exact hn (by simpa using z))]
   walk_at "rd"
   refine Zaj (pk.mono s5).at_ rfl ?_
   walk_at "rd"
   refine rd_I (by lia) ?_
   walk_at "rd"
   refine Zav (fun e4 => ?_) (fun ne4 => ?_)
   ·walk_at "rd"
    exact short H5 s5 _ fun _ => rfl
   ·walk_at "rd"
    refine Zaj (pk.mono s5).at_ rfl ?_
    walk_at "rd"
    refine rd_I ⟨by lia, Zig (by decide)⟩ ?_
    walk_at "rd"
    refine Zb3 (SqT.of (s5 _ _ ha)) ?_
    have hpos : 0 < ns.length := List.length_pos_iff.mpr hn
    refine rd_I (by simp; lia) ?_
    walk_at "rd"
    refine Zce (s5 _ _ ha) fun p6 H6 e6 s6 => ?_
    obtain ⟨ms, em, lm, im⟩ := Zgp (ns := ns) (lo := none) (hi := some (p3 / 5 % ((ns.map V.int).length : Int)))
    rw [em] at e6
    walk_at "rd"
    walk_at "mk"; intro p7 hp7
    have s7 := Same.new (o := .tup [V.int me]) hp7
    have e7 : upd H6 p7 (.tup [V.int me]) p7 = some (.tup ([me].map V.int)) := Zac
    generalize upd H6 p7 (.tup [V.int me]) = H7 at s7 e7
    refine ZbF (s7 _ _ e6) e7 (by simp; lia) fun p8 H8 e8 s8 => ?_
    rw [<- List.map_append] at e8
    walk_at "rd"
    refine Zce (s8 _ _ (s7 _ _ (s6 _ _ (s5 _ _ ha)))) fun p9 H9 e9 s9 => ?_
    obtain ⟨ms2, em2, lm2, im2⟩ := Zgp (ns := ns) (lo := some (p3 / 5 % ((ns.map V.int).length : Int) + 1)) (hi := none)
    rw [em2] at e9
    refine ZbF (s9 _ _ e8) e9 (by simp; lia) fun p10 H10 e10 s10 => ?_
    rw [<- List.map_append] at e10
    exact k _ _ H10 ⟨ms ++ [me] ++ ms2, rfl, by simp; lia, Zii (Zii (fun n hn => hsm n (im n hn)) (ZgM hme)) fun n hn => hsm n (im2 n hn)⟩ (ZcP e10) (((((s5.trans s6).trans s7).trans s8).trans s9).trans s10)
theorem ZhV {wd : Str} : ∀ (l : List (Str × Str)), valV (l.map fun q => ((Sum.inr q.1 : Key), V.str q.2)) (Sum.inr wd) = (l.lookup wd).map V.str
  | [] => rfl
  | q :: l => by
    rw [List.lookup_cons, List.map_cons]
    by_cases e : wd = q.1
    · rw [beq_iff_eq.mpr e]
      subst e
      simp [valV]
    · have e1 : (wd == q.1) = false := by simpa using e
      rw [e1]
      have e2 : ¬ q.1 = wd := fun z => e z.symm
      have := ZhV (wd := wd) l
      simpa [valV, e2] using this
theorem Zms {wd ls : Str} (h : lettersL.lookup wd = some ls) : (wd, ls) ∈ lettersL := by
  have : ∀ (l : List (Str × Str)), l.lookup wd = some ls -> (wd, ls) ∈ l := by
    intro l
    induction l with
    | nil => intro h; cases h
    | cons q l ih =>
      intro h
      obtain ⟨a, b⟩ := q
      rw [List.lookup_cons] at h
      split at h
      · next e => cases h; rw [beq_iff_eq.mp e]; exact List.mem_cons_self
      · exact List.mem_cons_of_mem _ (ih h)
  exact this _ h
theorem Zih {n : Nat} (h : n <= 10000) : Za3 (n : Int) := by
 unfold Za3
 lia
inductive Pr_bound (x1 x2 x3 x4 : V) (H : Hp) (Q : VK) : Prop
 | mk (p vs d r k) (_ : x1 = .ref p) (_ : H p = some (.lst vs)) (_ : DefAt [] H d x2) (_ : Rep H (rowD r) x3) (_ : x4 = .int k) (_ : 1 <= k) (_ : Za3 d.2.1) (_ : d.2.2.length <= 10000) (_ : vs.length <= 10000) (_ : ∀ n H', Za3 n -> Same H H' -> Q (.int n) H') : Pr_bound x1 x2 x3 x4 H Q
noncomputable def ZgK : Sp := sp4 (Pr_bound)
theorem Str.len_app (a b : Str) : (a ++ b).cps.toList = a.cps.toList ++ b.cps.toList := by
 show (a.cps ++ b.cps).toList = _
 simp
theorem sc__law_bound : FnScope ["program", "one", "row", "k", "letters", "letter"] ["program", "one", "row", "k"] (Zag Zbl) := ⟨rfl, rfl, rfl, by decide +kernel, rfl, by decide +kernel, by decide +kernel⟩
theorem ZfP (B : Blt mg) (T__law_bound : TopFn K mg "_law_bound" Zbl ["program", "one", "row", "k"]) (ZaN : Callee P w K mg base "_law_letters" 1 [] Zco) : Callee P w K mg base "_law_bound" 2 ["program", "one", "row", "k"] ZgK := by
  refine T__law_bound.ok4 sc__law_bound fun f cdv A outer s H v1 v2 v3 v4 Q E hr h => ?_
  have nd := sc__law_bound.nd
  have hu1 := Zjf hr
  obtain ⟨p, vs, d, r, kk, rfl, hp, DA, rr, rfl, k1, hbx, hrl, hvl, k⟩ := h
  obtain ⟨wd, ps⟩ := r
  obtain ⟨t, q, ys, rfl, hat, hq, _, ry⟩ := DA
  refine' ZaI [some (.ref p), some (.ref t), some v3, some (.int kk), none, none] rfl ?hb ?hg
  case' hb => refine' Zae ?bab ?bac
  case' bab => refine' Zcl (i := 4) ?bad ?bae ?baf ?bag
  case bad => exact nd
  case bae => exact rfl
  case baf => exact (Or.inl rfl)
  case' bag => refine' Zkp ?bah ?bai ?baj ?bak ?bal
  case bah => exact hu1
  case bai => exact (ZgV ZaN (hr.mono (by first | decide | lia)) (by rfl))
  case baj => exact (Zao (k_ix (K := K) rfl) (pv 2) Zab (fun _ _ => rfl))
  case bak => exact Zaw
  case bal => exact (M2.mk rfl rfl rfl rfl)
  case' bac => refine' Zae ?bam ?ban
  case' bam => refine' Zb7 (i := 5) ?bao ?bap ?baq ?bar
  case bao => exact nd
  case bap => exact rfl
  case baq => exact (Or.inl rfl)
  case' bar => refine' Zao ?bas ?bat ?bau ?bav
  case bas => exact Zja
  case bat => exact (Zas Zdu (pv 4) Zaw)
  case bau => exact (Zai (Zeq rfl) (by rfl) B.b_min ZjF (Zbs (Zas ZcI (pv 3) Zab) (Zah Zab Zad)))
  case bav => exact (fun _ _ => rfl)
  case' ban => refine' Zae ?baw ?bax
  case' baw => refine' ZaF ?bay ?baz ?bba
  case bay => exact (Zal Zft (pv 5) Zaw (by with_unfolding_all rfl))
  case baz => exact (Zaf (Zan (Zao (k_ix (K := K) rfl) (pv 1) Zab (fun _ _ => rfl))))
  case bba => exact Zam
  case' bax => refine' Zae ?bbb ?bbc
  case' bbb => refine' ZaF ?bbd ?bbe ?bbf
  case bbd => exact (Zal Za1 (pv 5) Zaw (Zar _))
  case' bbe => refine' Zaf ?bbg
  case bbg => exact (Zan (Zai (Zbt (K := K) rfl) (by rfl) B.b_len ZaW (Zau (Zao (k_ix (K := K) rfl) (pv 1) Zab (fun _ _ => rfl)) Zad)))
  case bbf => exact Zam
  case' bbc => refine' Zae ?bbh ?bbi
  case' bbh => refine' ZaF ?bbj ?bbk ?bbl
  case bbj => exact (Zal Za1 (pv 5) Zaw (Zar _))
  case bbk => exact (Zaf (Zan (Zai (Zbt (K := K) rfl) (by rfl) B.b_len ZaW (Zaa (pv 0) Zad))))
  case bbl => exact Zam
  case bbi => exact (Zaf (Zan Zab))
  walk_at "rd"
  refine use0 fun pl H1 hpl hl1 s1 => ⟨pl, rfl, .inl ⟨_, .inl hl1⟩, ?_⟩
  walk_at "rd"
  refine ZcR (n := 0) (rr.mono s1.ts) rfl rfl fun u ru => ?_
  obtain rfl : u = .str wd := by rwa [Rep] at ru
  walk_at "rd"
  refine ⟨_, .inl ⟨_, Sum.inr wd, .inl hl1, rfl, rfl⟩, ?_⟩
  rw [show valV lettersKV (Sum.inr wd) = (lettersL.lookup wd).map V.str from ZhV _]
  have hls : ∃ ls : Str, ls.cps.toList.length <= 3 /\ ((lettersL.lookup wd).map V.str).getD (.str "") = .str ls := by
    cases lk : lettersL.lookup wd with
    | none => exact ⟨"", by decide +kernel, rfl⟩
    | some ls => exact ⟨ls, by have := le3 (Zms lk); simpa using this, rfl⟩
  obtain ⟨ls, l3, els⟩ := hls
  rw [els]
  walk_at "rd"
  have hsz : ls.length <= 3 := by have : ls.length = ls.cps.size := rfl; rw [this]; simpa using l3
  have h6 : (("iiiiii" : Str)).length = 6 := by decide +kernel
  refine ⟨ls, "iiiiii", rfl, rfl, by rw [h6]; exact Zax (by lia), ?_⟩
  walk_at "rd"
  have e2 : (ls ++ ("iiiiii" : Str)).cps.toList = ls.cps.toList ++ ("iiiiii" : Str).cps.toList := Str.len_app _ _
  have e6 : ("iiiiii" : Str).cps.toList.length = 6 := by decide +kernel
  have hlen : (ls ++ ("iiiiii" : Str)).length <= 9 := by
    have : (ls ++ ("iiiiii" : Str)).length = (ls ++ ("iiiiii" : Str)).cps.toList.length := by simp; rfl
    rw [this, e2, List.length_append, e6]; lia
  obtain ⟨j, hj, hj5⟩ : ∃ j : Nat, (if 5 < kk - 1 then 5 else kk - 1) = (j : Int) /\ j <= 5 := by
    split
    · exact ⟨5, rfl, by lia⟩
    · exact ⟨(kk - 1).toNat, by lia, by lia⟩
  rw [hj]
  have hjl : j < (ls ++ ("iiiiii" : Str)).cps.toList.length := by rw [e2, List.length_append, e6]; lia
  refine ⟨_, j, _, rfl, rfl, Zax (by lia), ZaV rfl (List.getElem?_eq_getElem hjl), ?_⟩
  generalize (⟨#[(ls ++ ("iiiiii" : Str)).cps.toList[j]]⟩ : Str) = c
  walk_at "rd"
  refine ⟨c, "pq", rfl, rfl, ?_⟩
  refine ⟨_, rfl, ?_⟩
  generalize (!(Builtin.Str.occurrences ("pq" : Str) c 0 ("pq" : Str).length 1).isEmpty) = bb
  cases bb with
  | true =>
    walk_at "rd"
    refine Za6 (s1 _ _ hat) rfl ?_
    exact k _ _ hbx s1
  | false =>
    walk_at "rd"
    refine Zav (fun e => ?_) (fun n1 => ?_)
    · walk_at "rd"
      refine Za6 (s1 _ _ hat) rfl ?_
      walk_at "rd"
      refine ZaO (SqL.of (s1 _ _ hq)) ?_
      exact k _ _ (Zih (by have := ry.length; rw [List.length_map] at this; lia)) s1
    · walk_at "rd"
      refine Zav (fun e => ?_) (fun n2 => ?_)
      · walk_at "rd"
        refine ZaO (SqL.of (s1 _ _ hp)) ?_
        exact k _ _ (Zih hvl) s1
      · walk_at "rd"
        exact k _ _ (Zih (n := 100) (by decide)) s1
inductive Pr_pick (x : V) (H : Hp) (Q : VK) : Prop
 | mk (b l) (_ : x = .ref b) (_ : BagAt H b l) (_ : ∀ q p0 p1 p2 p3 p4 nm wd H', PickOk H' q p0 p1 p2 p3 p4 nm wd -> q ≠ b -> q ≠ l -> BagAt H' b l -> BSame b H H' -> Q (.ref q) H') : Pr_pick x H Q
noncomputable def ZlC : Sp := sp1 (Pr_pick)
noncomputable def abc : Str := "abcdefghijklmnopqrstuvwxyz"
noncomputable def somI : List Int := [-1, 0, 1, 2, 3, 4, 5, 6, 7, 8, 9, 29, 30, 31, 98, 99, 100, -99, -100]
noncomputable def pk5 (p0 p1 p2 p3 p4 : Int) : List V := [.int p0, .int p1, .int p2, .int p3, .int p4]
theorem sc__law_pick : FnScope ["bag", "pick", "some", "number", "word", "k"] ["bag"] (Zag ZbA) := ⟨rfl, rfl, rfl, by decide +kernel, rfl, by decide +kernel, by decide +kernel⟩
theorem Zgx (B : Blt mg) (T__law_pick : TopFn K mg "_law_pick" ZbA ["bag"]) (Zak : Callee P w K mg base "_law_draw" 1 ["bag", "many"] ZcC) (ZbO : Callee P w K mg base "_law_number" 2 ["bag"] Zc9) : Callee P w K mg base "_law_pick" 3 ["bag"] ZlC := by
 refine T__law_pick.ok1 sc__law_pick fun f cdv A outer s H v1 Q E hr h => ?_
 have nd := sc__law_pick.nd
 obtain ⟨b, l, rfl, Bg, k⟩ := h
 refine' ZaI [some (.ref b), none, none, none, none, none] rfl ?hb ?hg
 case' hb => refine' Zae ?bab ?bac
 case' bab => refine' Zdp (i := 1) ?bad ?bae ?baf ?bag
 case bad => exact nd
 case bae => exact rfl
 case baf => exact (Or.inl rfl)
 case' bag => refine' Za9 ?bah
 case' bah => refine' ZaB ?bai ?baj
 case bai => exact (ZaK Zak (hr.mono (by first | decide | lia)) (by rfl) (Zaa (pv 0) (Zah Zab Zad)))
 case' baj => refine' ZaB ?bak ?bal
 case bak => exact (ZaK Zak (hr.mono (by first | decide | lia)) (by rfl) (Zaa (pv 0) (Zah Zab Zad)))
 case' bal => refine' ZaB ?bam ?ban
 case bam => exact (ZaK Zak (hr.mono (by first | decide | lia)) (by rfl) (Zaa (pv 0) (Zah Zab Zad)))
 case' ban => refine' ZaB ?bao ?bap
 case bao => exact (ZaK Zak (hr.mono (by first | decide | lia)) (by rfl) (Zaa (pv 0) (Zah Zab Zad)))
 case bap => exact (ZaB (ZaK Zak (hr.mono (by first | decide | lia)) (by rfl) (Zaa (pv 0) (Zah Zab Zad))) Zad)
 case' bac => refine' Zae ?baq ?bar
 case' baq => refine' Zdp (i := 2) ?bas ?bat ?bau ?bav
 case bas => exact nd
 case bat => exact rfl
 case bau => exact (Or.inl rfl)
 case' bav => refine' Za9 ?baw
 case' baw => refine' ZdV ?bax ?bay
 case bax => exact (ZeZ Zc5 Zab)
 case' bay => refine' Zah ?baz ?bba
 case baz => exact Zab
 case' bba => refine' Zah ?bbb ?bbc
 case bbb => exact Zab
 case' bbc => refine' Zah ?bbd ?bbe
 case bbd => exact Zab
 case' bbe => refine' Zah ?bbf ?bbg
 case bbf => exact Zab
 case' bbg => refine' Zah ?bbh ?bbi
 case bbh => exact Zab
 case' bbi => refine' Zah ?bbj ?bbk
 case bbj => exact Zab
 case' bbk => refine' Zah ?bbl ?bbm
 case bbl => exact Zab
 case' bbm => refine' Zah ?bbn ?bbo
 case bbn => exact Zab
 case' bbo => refine' Zah ?bbp ?bbq
 case bbp => exact Zab
 case' bbq => refine' Zah ?bbr ?bbs
 case bbr => exact Zab
 case' bbs => refine' Zah ?bbt ?bbu
 case bbt => exact Zab
 case' bbu => refine' Zah ?bbv ?bbw
 case bbv => exact Zab
 case bbw => exact (Zah Zab (Zah Zab (Zah Zab (Zah Zab (ZdV (ZeZ Zc5 Zab) (ZdV (ZeZ Zc5 Zab) Zad))))))
 case' bar => refine' Zae ?bbx ?bby
 case' bbx => refine' Zb7 (i := 3) ?bbz ?bca ?bcb ?bcc
 case bbz => exact nd
 case bca => exact rfl
 case bcb => exact (Or.inl rfl)
 case' bcc => refine' Zao ?bcd ?bce ?bcf ?bcg
 case bcd => exact (k_ix (K := K) rfl)
 case bce => exact (pv 2)
 case bcf => exact (ZaK Zak (hr.mono (by first | decide | lia)) (by rfl) (Zaa (pv 0) (Zah Zab Zad)))
 case bcg => exact (fun _ _ => rfl)
 case' bby => refine' Zae ?bch ?bci
 case' bch => refine' ZaF ?bcj ?bck ?bcl
 case bcj => exact (Zal Za1 (ZaK Zak (hr.mono (by first | decide | lia)) (by rfl) (Zaa (pv 0) (Zah Zab Zad))) Zab (Zar _))
 case bck => exact (Zaf (Zcl (i := 3) nd rfl (Or.inl rfl) (ZaK ZbO (hr.mono (by first | decide | lia)) (by rfl) (Zaa (pv 0) Zad))))
 case bcl => exact Zam
 case' bci => refine' Zae ?bcm ?bcn
 case bcm => exact (Zdb (i := 4) nd rfl (Or.inl rfl) Zaw)
 case' bcn => refine' Zae ?bco ?bcp
 case' bco => refine' ZaF ?bcq ?bcr ?bcs
 case bcq => exact (Zal Za1 (Zao (k_ix (K := K) rfl) (pv 1) Zab (fun _ _ => rfl)) Zab (Zar _))
 case' bcr => refine' Zaf ?bct
 case' bct => refine' ZcA ?bcu ?bcv ?bcw ?bcx ?bcy
 case bcu => exact PassesOwn.never
 case bcv => exact rfl
 case' bcw => refine' ZbQ ?bcz ?bda ?bdb
 case bcz => exact rfl
 case bda => exact B.b_range
 case bdb => exact (Zbs (Zas Za8 Zab (ZaK Zak (hr.mono (by first | decide | lia)) (by rfl) (Zaa (pv 0) (Zah Zab Zad)))) Zad)
 case bcx => exact (ZaG (i := 5) nd rfl (Or.inl rfl))
 case' bcy => refine' Zaf ?bdc
 case' bdc => refine' Zbr (i := 4) ?bdd ?bde ?bdf ?bdg
 case bdd => exact nd
 case bde => exact rfl
 case bdf => exact (Or.inl rfl)
 case' bdg => refine' Zas ?bdh ?bdi ?bdj
 case bdh => exact Zdu
 case bdi => exact (pv 4)
 case bdj => exact (Zao Zja Zaw (ZaK Zak (hr.mono (by first | decide | lia)) (by rfl) (Zaa (pv 0) (Zah Zab Zad))) (fun _ _ => rfl))
 case bcs => exact Zam
 case bcp => exact (Zaf (Zan (Zas ZcB (pv 1) (Za9 (Zaa (pv 3) (Zaa (pv 4) Zad))))))
 walk_at "rd"
 refine use2 ⟨b, l, 16, rfl, rfl, ⟨by decide, by decide⟩, Bg, fun p0 H1 a0 b0 B1 s1 => ?_⟩
 walk_at "rd"
 refine use2 ⟨b, l, 6, rfl, rfl, ⟨by decide, by decide⟩, B1, fun p1 H2 a1 b1 B2 s2 => ?_⟩
 walk_at "rd"
 refine use2 ⟨b, l, 31, rfl, rfl, ⟨by decide, by decide⟩, B2, fun p2 H3 a2 b2 B3 s3 => ?_⟩
 walk_at "rd"
 refine use2 ⟨b, l, 23, rfl, rfl, ⟨by decide, by decide⟩, B3, fun p3 H4 a3 b3 B4 s4 => ?_⟩
 walk_at "rd"
 refine use2 ⟨b, l, 3, rfl, rfl, ⟨by decide, by decide⟩, B4, fun p4 H5 a4 b4 B5 s5 => ?_⟩
 have s05 := (((s1.trans s2).trans s3).trans s4).trans s5
 walk_at "rd"
 refine ⟨show 5 <= PySem.sizeLine by rw [PySem.sizeLine_eq]; decide, fun pk hpk => ?_⟩
 have nk := B5.ne hpk
 have hpk0 : H pk = none := s05.free (Ne.symm nk.1) hpk
 have s6 := Same.new (o := .lst (pk5 p0 p1 p2 p3 p4)) hpk
 have e6 : upd H5 pk (.lst (pk5 p0 p1 p2 p3 p4)) pk = some (.lst (pk5 p0 p1 p2 p3 p4)) := Zac
 unfold pk5 at s6 e6
 generalize upd H5 pk (.lst [V.int p0, V.int p1, V.int p2, V.int p3, V.int p4]) = H6 at s6 e6
 have B6 := B5.mono s6
 have s06 := s05.to s6
 walk_at "rd"
 refine ⟨show 19 <= PySem.sizeLine by rw [PySem.sizeLine_eq]; decide, fun ps hps => ?_⟩
 have ns := B6.ne hps
 have hps' : ps ≠ pk := fun z => by rw [z, e6] at hps; cases hps
 have s7 := Same.new (o := .lst (somI.map V.int)) hps
 have e7 : upd H6 ps (.lst (somI.map V.int)) ps = some (.lst (somI.map V.int)) := Zac
 unfold somI at s7 e7
 simp only [List.map_cons, List.map_nil] at s7 e7
 generalize upd H6 ps (.lst [V.int (-1), V.int 0, V.int 1, V.int 2, V.int 3, V.int 4, V.int 5, V.int 6, V.int 7, V.int 8, V.int 9, V.int 29, V.int 30, V.int 31, V.int 98, V.int 99, V.int 100, V.int (-99), V.int (-100)]) = H7 at s7 e7
 have B7 := B6.mono s7
 have s07 := s06.to s7
 walk_at "rd"
 refine use2 ⟨b, l, 19, rfl, rfl, ⟨by decide, by decide⟩, B7, fun r8 H8 a8 b8 B8 s8 => ?_⟩
 have e7' : H8 ps = some (.lst (somI.map V.int)) := s8 _ _ (Ne.symm ns.1) e7
 obtain ⟨nm, hnm, enm⟩ := ZmS (ms := somI) a8 b8
 have hnm : Za3 nm := by
  have : ∀ n ∈ somI, n.natAbs <= 100 := by decide
  have := this nm hnm
  unfold Za3
  lia
 refine Zaj e7' enm ?_
 have s08 := s07.trans s8
 have e8 : H8 pk = some (.lst [V.int p0, V.int p1, V.int p2, V.int p3, V.int p4]) := s8 _ _ (Ne.symm nk.1) (s7 _ _ e6)
 refine ZcN ?_
 try dsimp +zetaDelta only
 refine ZcG (fun σ' H' => An4 (∃ nm : Int, Za3 nm /\ σ' = [some (.ref b), some (.ref pk), some (.ref ps), some (.int nm), none, none]) (BagAt H' b l) (BSame b H H') (H' pk = some (.lst [V.int p0, V.int p1, V.int p2, V.int p3, V.int p4]))) ?_ fun N hN => ?_
 ·rintro σ' H' ⟨⟨nm, hnm, rfl⟩, B9, s09, e9⟩
  refine Zk7 (Zix (rd_c (ZcN ?_)))
  try dsimp +zetaDelta only
  refine ZcG (fun σ' H' => An4 (∃ (wd : Str) (x5 : Option V), wd.length <= 10 /\ σ' = [some (.ref b), some (.ref pk), some (.ref ps), some (.int nm), some (.str wd), x5]) (BagAt H' b l) (BSame b H H') (H' pk = some (.lst [V.int p0, V.int p1, V.int p2, V.int p3, V.int p4]))) ?_ fun N hN => ?_
  ·rintro σ' H' ⟨⟨wd, x5, hw, rfl⟩, B10, s010, e10⟩
   walk_at "rd"
   refine ⟨show 2 <= PySem.sizeLine by rw [PySem.sizeLine_eq]; decide, fun pz hpz => ?_⟩
   have nz := B10.ne hpz
   have s11 := Same.new (o := .lst [V.int nm, V.str wd]) hpz
   have e11 : upd H' pz (.lst [V.int nm, V.str wd]) pz = some (.lst [V.int nm, V.str wd]) := Zac
   generalize upd H' pz (.lst [V.int nm, V.str wd]) = H11 at s11 e11
   refine ZcH (s11 _ _ e10) e11 (show 7 <= PySem.sizeLine by rw [PySem.sizeLine_eq]; decide) fun pr hpr => ?_
   have B11 := B10.mono s11
   have nr := B11.ne hpr
   have s12 := Same.new (o := .lst ([V.int p0, V.int p1, V.int p2, V.int p3, V.int p4] ++ [V.int nm, V.str wd])) hpr
   exact k pr p0 p1 p2 p3 p4 nm wd _ ⟨Zac, ⟨a0, b0⟩, ⟨a1, b1⟩, ⟨a2, b2⟩, ⟨a3, b3⟩, ⟨a4, b4⟩, hw, hnm⟩ (Ne.symm nr.1) (Ne.symm nr.2) (B11.mono s12) ((s010.to s11).to s12)
  ·walk_at "rd"
   refine Zaj e9 rfl ?_
   walk_at "rd"
   refine Zav (fun e => ?_) (fun ne => ?_)
   ·walk_at "rd"
    refine use2 ⟨b, l, 9, rfl, rfl, ⟨by decide, by decide⟩, B9, fun r10 H10 a10 b10 B10 s10 => ?_⟩
    walk_at "rd"
    refine Zdh (by lia) (by lia) ?_
    refine Zcu (n := (1 + r10).toNat) (fun i σ Hx => An4 (∃ (wd : Str) (x5 : Option V), wd.length <= i /\ σ = [some (.ref b), some (.ref pk), some (.ref ps), some (.int nm), some (.str wd), x5]) (BagAt Hx b l) (BSame b H Hx) (Hx pk = some (.lst [V.int p0, V.int p1, V.int p2, V.int p3, V.int p4]))) ⟨⟨"", none, by decide +kernel, rfl⟩, B10, s09.trans s10, s10 _ _ (Ne.symm nk.1) e9⟩ ?_ ?_
    ·rintro i σ Hx hi ⟨⟨wd, x5, hw, rfl⟩, Bx, s0x, ex⟩
     walk_at "rd"
     refine use2 ⟨b, l, 26, rfl, rfl, ⟨by decide, by decide⟩, Bx, fun r11 H11 a11 b11 B11 s11 => ?_⟩
     have hab : abc.cps.toList.length = 26 := by decide +kernel
     have hab2 : abc.length = 26 := by decide +kernel
     have hj : r11.toNat < abc.cps.toList.length := by lia
     refine ⟨abc, r11, _, rfl, rfl, by rw [hab2]; exact Zax (by lia), ZaV (n := r11.toNat) (by lia) (List.getElem?_eq_getElem hj), ?_⟩
     have one : ∀ c : Nat, (⟨#[c]⟩ : Str).length = 1 := fun _ => rfl
     refine ⟨wd, _, rfl, rfl, by rw [one]; exact Zax (by lia), ?_⟩
     walk_at "rd"
     refine ⟨⟨_, _, ?_, rfl⟩, B11, s0x.trans s11, s11 _ _ (Ne.symm nk.1) ex⟩
     have : (wd ++ (⟨#[abc.cps.toList[r11.toNat]]⟩ : Str)).length = wd.length + 1 := by
      show (wd.cps ++ #[_]).size = wd.cps.size + 1
      simp
     lia
    ·rintro σ Hx ⟨⟨wd, x5, hw, rfl⟩, Bx, s0x, ex⟩
     exact hN _ _ ⟨⟨wd, x5, by lia, rfl⟩, Bx, s0x, ex⟩
   ·walk_at "rd"
    exact hN _ _ ⟨⟨"", none, by decide +kernel, rfl⟩, B9, s09, e9⟩
 ·walk_at "rd"
  refine use2 ⟨b, l, 3, rfl, rfl, ⟨by decide, by decide⟩, B8, fun r9 H9 a9 b9 B9 s9 => ?_⟩
  walk_at "rd"
  refine Zav (fun e => ?_) (fun ne => ?_)
  ·walk_at "rd"
   refine use1 ⟨b, l, rfl, B9, fun n H10 hn10 B10 s10 => ?_⟩
   walk_at "rd"
   exact hN _ _ ⟨⟨n, hn10, rfl⟩, B10, (s08.trans s9).trans s10, s10 _ _ (Ne.symm nk.1) (s9 _ _ (Ne.symm nk.1) e8)⟩
  ·walk_at "rd"
   exact hN _ _ ⟨⟨nm, hnm, rfl⟩, B9, s08.trans s9, s9 _ _ (Ne.symm nk.1) e8⟩
noncomputable def PartM (m : Nat) (d : D) : Prop := (∃ n, d = .int n /\ Za3 n) \/ ZmX m d
structure RowB (m : Nat) (r : Str × List D) : Prop where
 w : r.1.length <= m
 n : r.2.length <= m
 p : ∀ d ∈ r.2, PartM m d
theorem PartM.mono {m n : Nat} {d : D} (h : PartM m d) (l : m <= n) : PartM n d := by
 rcases h with h | ⟨ns, e, hl, hs⟩
 ·exact .inl h
 ·exact .inr ⟨ns, e, by lia, hs⟩
noncomputable def els : List Str := ["", "Put", "puts", "def", "lane", "call ", "jum", "rest", "go", "hold", "edge"]
noncomputable def allW : List Str := lettersL.map (·.1) ++ els
inductive Pr_bent_row (x1 x2 x3 x4 : V) (H : Hp) (Q : VK) : Prop
 | mk (m p vs d r b p0 p1 p2 p3 p4 nm wd) (_ : x1 = .ref p) (_ : H p = some (.lst vs)) (_ : DefAt [] H d x2) (_ : Rep H (rowD r) x3) (_ : RowB m r) (_ : m <= 300) (_ : Za3 d.2.1) (_ : d.2.2.length <= 10000) (_ : vs.length <= 10000) (_ : x4 = .ref b) (_ : PickOk H b p0 p1 p2 p3 p4 nm wd) (_ : ∀ r' v H', RowB (2 * m + 11) r' -> Rep H' (rowD r') v -> Same H H' -> Q v H') : Pr_bent_row x1 x2 x3 x4 H Q
noncomputable def Zd7 : Sp := sp4 (Pr_bent_row)
theorem sc__law_bent_row : FnScope ["program", "one", "row", "pick", "some", "k", "bound", "mend"] ["program", "one", "row", "pick"] (Zag ZaX) := ⟨rfl, rfl, rfl, by decide +kernel, rfl, by decide +kernel, by decide +kernel⟩
theorem Zer (B : Blt mg) (T__law_bent_row : TopFn K mg "_law_bent_row" ZaX ["program", "one", "row", "pick"]) (ZaN : Callee P w K mg base "_law_letters" 1 [] Zco) (Zc2 : Callee P w K mg base "_law_bound" 2 ["program", "one", "row", "k"] ZgK) (Zcc : Callee P w K mg base "_law_bent_args" 1 ["args", "pick", "mend"] ZdJ) : Callee P w K mg base "_law_bent_row" 3 ["program", "one", "row", "pick"] Zd7 := by
 refine T__law_bent_row.ok4 sc__law_bent_row fun f cdv A outer s H v1 v2 v3 v4 Q E hr h => ?_
 have nd := sc__law_bent_row.nd
 have hu := hr.units
 have hu1 := Zjf hr
 obtain ⟨m, p, vs, d, ⟨w0, ps⟩, b, p0, p1, p2, p3, p4, nm, wd, rfl, hp, DA, rr, ⟨hw0, hn0, hp0⟩, hm, hbx, hrl, hvl, rfl, pk, k⟩ := h
 dsimp only at hw0 hn0 hp0
 obtain ⟨t, xs', rfl, ht, rx0⟩ := Zaz (show Rep H (.tup (.str w0 :: ps)) v3 from rr)
 obtain ⟨u, xs, rfl, ru, rx⟩ := Zat rx0
 obtain rfl : u = .str w0 := by rwa [Rep] at ru
 have hxl := rx.length
 have fin : ∀ (ws : Str) (ds' : List D) (zs : List V) (q : Addr) (H' : Hp), H' q = some (.tup (.str ws :: zs)) -> Reps H' ds' zs -> ws.length <= 2 * m + 11 -> ds'.length <= 2 * m + 11 -> (∀ d ∈ ds', PartM (2 * m + 11) d) -> Same H H' -> Q (.ref q) H' := fun ws ds' zs q H' e r h1 h2 h3 s' =>
  k (ws, ds') (.ref q) H' ⟨h1, h2, h3⟩ (ZbP e (Zap (by rw [Rep]) r)) s'
 have hpM : ∀ d ∈ ps, PartM (2 * m + 11) d := fun d hd => (hp0 d hd).mono (by lia)
 refine' ZaI [some (.ref p), some v2, some (.ref t), some (.ref b), none, none, none, none] rfl ?hb ?hg
 case' hb => refine' Zae ?bab ?bac
 case' bab => refine' ZaF ?bad ?bae ?baf
 case bad => exact (Zal Za1 (Zao (k_ix (K := K) rfl) (pv 3) Zab (fun _ _ => rfl)) Zab (Zar _))
 case bae => exact (Zaf (Zan (Zas (Zcg (K := K) rfl) (pv 2) (Za0 (Zau (Zao (k_ix (K := K) rfl) (pv 3) Zab (fun _ _ => rfl)) Zad)))))
 case baf => exact Zam
 case' bac => refine' Zae ?bag ?bah
 case' bag => refine' ZaF ?bai ?baj ?bak
 case bai => exact (Zal Za1 (Zao (k_ix (K := K) rfl) (pv 3) Zab (fun _ _ => rfl)) Zab (Zar _))
 case' baj => refine' Zaf ?bal
 case' bal => refine' Zan ?bam
 case' bam => refine' ZaC ?ban ?bao ?bap ?baq
 case ban => exact (ZdP (K := K) rfl)
 case bao => exact (pv 2)
 case bap => exact ZaM
 case' baq => refine' ZaJ ?bar
 case' bar => refine' Zas ?bas ?bat ?bau
 case bas => exact Za8
 case bat => exact Zab
 case' bau => refine' Zas ?bav ?baw ?bax
 case bav => exact Zb2
 case baw => exact (Zao (k_ix (K := K) rfl) (pv 3) Zab (fun _ _ => rfl))
 case bax => exact (Zai (Zbt (K := K) rfl) (by rfl) B.b_len ZaW (Zaa (pv 2) Zad))
 case bak => exact Zam
 case' bah => refine' Zae ?bay ?baz
 case' bay => refine' ZaF ?bba ?bbb ?bbc
 case bba => exact (Zal Za1 (Zao (k_ix (K := K) rfl) (pv 3) Zab (fun _ _ => rfl)) Zab (Zar _))
 case' bbb => refine' Zae ?bbd ?bbe
 case' bbd => refine' Zbr (i := 4) ?bbf ?bbg ?bbh ?bbi
 case bbf => exact nd
 case bbg => exact rfl
 case bbh => exact (Or.inl rfl)
 case' bbi => refine' Zas ?bbj ?bbk ?bbl
 case bbj => exact ZcB
 case bbk => exact (ZbR (ZeN rfl) (by rfl) B.b_list ZcY (ZaB (ZgV ZaN (hr.mono (by first | decide | lia)) (by rfl)) Zad))
 case' bbl => refine' Za9 ?bbm
 case' bbm => refine' Zah ?bbn ?bbo
 case bbn => exact Zaw
 case' bbo => refine' Zah ?bbp ?bbq
 case bbp => exact Zaw
 case' bbq => refine' Zah ?bbr ?bbs
 case bbr => exact Zaw
 case bbs => exact (Zah Zaw (Zah Zaw (Zah Zaw (Zah Zaw (Zah Zaw (Zah Zaw (Zah Zaw (Zah Zaw Zad))))))))
 case' bbe => refine' Zaf ?bbt
 case' bbt => refine' Zan ?bbu
 case' bbu => refine' Zas ?bbv ?bbw ?bbx
 case bbv => exact (Zcg (K := K) rfl)
 case' bbw => refine' Za0 ?bby
 case' bby => refine' Zau ?bbz ?bca
 case' bbz => refine' Zao ?bcb ?bcc ?bcd ?bce
 case bcb => exact (k_ix (K := K) rfl)
 case' bcc => refine' Za9 ?bcf
 case' bcf => refine' Zau ?bcg ?bch
 case bcg => exact (Zao (k_ix (K := K) rfl) (pv 4) (Zao (k_ix (K := K) rfl) (pv 3) Zab (fun _ _ => rfl)) (fun _ _ => rfl))
 case' bch => refine' Zau ?bci ?bcj
 case bci => exact (Zao (k_ix (K := K) rfl) (pv 3) Zab (fun _ _ => rfl))
 case' bcj => refine' Zbs ?bck ?bcl
 case bck => exact (Zas Zdu (Zao (k_ix (K := K) rfl) (pv 2) Zab (fun _ _ => rfl)) (Zao (k_ix (K := K) rfl) (pv 3) Zab (fun _ _ => rfl)))
 case bcl => exact Zad
 case bcd => exact (Zao (k_ix (K := K) rfl) (pv 3) Zab (fun _ _ => rfl))
 case bce => exact (fun _ _ => rfl)
 case bca => exact Zad
 case bbx => exact (ZaC (Zmy (K := K) rfl) (pv 2) (ZaJ Zab) ZaM)
 case bbc => exact Zam
 case' baz => refine' Zae ?bcm ?bcn
 case' bcm => refine' ZaF ?bco ?bcp ?bcq
 case bco => exact (Zal Za1 (Zai (Zbt (K := K) rfl) (by rfl) B.b_len ZaW (Zaa (pv 2) Zad)) Zab (Zar _))
 case' bcp => refine' Zaf ?bcr
 case' bcr => refine' Zan ?bcs
 case bcs => exact (Zas (Zcg (K := K) rfl) (pv 2) (Za0 (ZbS (Za0 (Zau (Zao (k_ix (K := K) rfl) (pv 3) Zab (fun _ _ => rfl)) Zad)) Zad)))
 case bcq => exact Zam
 case' bcn => refine' Zae ?bct ?bcu
 case' bct => refine' Zbr (i := 5) ?bcv ?bcw ?bcx ?bcy
 case bcv => exact nd
 case bcw => exact rfl
 case bcx => exact (Or.inl rfl)
 case' bcy => refine' Zas ?bcz ?bda ?bdb
 case bcz => exact Za8
 case bda => exact Zab
 case' bdb => refine' Zas ?bdc ?bdd ?bde
 case bdc => exact Zb2
 case bdd => exact (Zao (k_ix (K := K) rfl) (pv 3) Zab (fun _ _ => rfl))
 case bde => exact (Zas ZcI (Zai (Zbt (K := K) rfl) (by rfl) B.b_len ZaW (Zaa (pv 2) Zad)) Zab)
 case' bcu => refine' Zae ?bdf ?bdg
 case' bdf => refine' Zcl (i := 6) ?bdh ?bdi ?bdj ?bdk
 case bdh => exact nd
 case bdi => exact rfl
 case bdj => exact (Or.inl rfl)
 case bdk => exact (ZaK Zc2 (hr.mono (by first | decide | lia)) (by rfl) (Zaa (pv 0) (Zaa (pv 1) (Zaa (pv 2) (Zaa (pv 5) Zad)))))
 case' bdg => refine' Zae ?bdl ?bdm
 case' bdl => refine' Zb7 (i := 7) ?bdn ?bdo ?bdp ?bdq
 case bdn => exact nd
 case bdo => exact rfl
 case bdp => exact (Or.inl rfl)
 case' bdq => refine' Zao ?bdr ?bds ?bdt ?bdu
 case bdr => exact (k_ix (K := K) rfl)
 case' bds => refine' Za9 ?bdv
 case' bdv => refine' Zaa ?bdw ?bdx
 case bdw => exact (pv 6)
 case' bdx => refine' ZaB ?bdy ?bdz
 case' bdy => refine' Zai ?bea ?beb ?bec ?bed ?bee
 case bea => exact (ZfK rfl)
 case beb => exact (by rfl)
 case bec => exact B.b_max
 case bed => exact Zls
 case bee => exact (Zbs (Zas ZcI (pv 6) Zab) (Zbs (Zas ZcI Zab (Zas Zg0 Zab Zab)) Zad))
 case bdz => exact (ZdV (ZeZ Zc5 Zab) Zad)
 case bdt => exact (Zao (k_ix (K := K) rfl) (pv 3) Zab (fun _ _ => rfl))
 case bdu => exact (fun _ _ => rfl)
 case' bdm => refine' Zae ?bef ?beg
 case' bef => refine' ZaF ?beh ?bei ?bej
 case beh => exact (Zal Za1 (Zao (k_ix (K := K) rfl) (pv 3) Zab (fun _ _ => rfl)) Zab (Zar _))
 case bei => exact (Zaf (Zb7 (i := 7) nd rfl (Or.inl rfl) (Zao (k_ix (K := K) rfl) (pv 3) Zab (fun _ _ => rfl))))
 case bej => exact Zam
 case' beg => refine' Zae ?bek ?bel
 case' bek => refine' ZaF ?bem ?ben ?beo
 case' bem => refine' PW.pt ?bep
 case' bep => refine' Zb0 ?beq ?ber
 case' beq => refine' Zbm ?bes
 case' bes => refine' Zai ?bet ?beu ?bev ?bew ?bex
 case bet => exact ZaQ
 case beu => exact (by rfl)
 case bev => exact B.b_isinstance
 case bew => exact Zaq
 case bex => exact (Zau (Zao (k_ix (K := K) rfl) (pv 2) (pv 5) (fun _ _ => rfl)) (Zaa (Za7 (v := .ty "tuple") (by rfl) B.b_tuple ZbX rfl) Zad))
 case ber => exact (ZbV (Zal Ze0 (Zao (k_ix (K := K) rfl) (pv 3) Zab (fun _ _ => rfl)) Zab (Zar _)))
 case' ben => refine' Zaf ?bey
 case' bey => refine' Zan ?bez
 case' bez => refine' Zas ?bfa ?bfb ?bfc
 case bfa => exact (Zcg (K := K) rfl)
 case' bfb => refine' Zas ?bfd ?bfe ?bff
 case bfd => exact (Zcg (K := K) rfl)
 case bfe => exact (ZaC (ZdP (K := K) rfl) (pv 2) ZaM (ZaJ (pv 5)))
 case' bff => refine' Za0 ?bfg
 case' bfg => refine' ZaB ?bfh ?bfi
 case' bfh => refine' ZaK ?bfj ?bfk ?bfl ?bfm
 case bfj => exact Zcc
 case bfk => exact (hr.mono (by first | decide | lia))
 case bfl => exact (by rfl)
 case bfm => exact (Zau (Zao (k_ix (K := K) rfl) (pv 2) (pv 5) (fun _ _ => rfl)) (Zaa (pv 3) (Zaa (pv 7) Zad)))
 case bfi => exact Zad
 case bfc => exact (ZaC (ZdP (K := K) rfl) (pv 2) (ZaJ (Zas Za8 (pv 5) Zab)) ZaM)
 case beo => exact Zam
 case' bel => refine' Zae ?bfn ?bfo
 case' bfn => refine' ZaF ?bfp ?bfq ?bfr
 case' bfp => refine' PW.pt ?bfs
 case' bfs => refine' Zb0 ?bft ?bfu
 case bft => exact (Zal Za1 (Zao (k_ix (K := K) rfl) (pv 3) Zab (fun _ _ => rfl)) Zab (Zar _))
 case' bfu => refine' ZbV ?bfv
 case' bfv => refine' Zb1 ?bfw
 case' bfw => refine' Zbm ?bfx
 case' bfx => refine' Zai ?bfy ?bfz ?bga ?bgb ?bgc
 case bfy => exact ZaQ
 case bfz => exact (by rfl)
 case bga => exact B.b_isinstance
 case bgb => exact Zaq
 case bgc => exact (Zau (Zao (k_ix (K := K) rfl) (pv 2) (pv 5) (fun _ _ => rfl)) (Zaa (Za7 (v := .ty "tuple") (by rfl) B.b_tuple ZbX rfl) Zad))
 case' bfq => refine' Zaf ?bgd
 case' bgd => refine' Zan ?bge
 case' bge => refine' Zas ?bgf ?bgg ?bgh
 case bgf => exact (Zcg (K := K) rfl)
 case' bgg => refine' Zas ?bgi ?bgj ?bgk
 case bgi => exact (Zcg (K := K) rfl)
 case bgj => exact (ZaC (ZdP (K := K) rfl) (pv 2) ZaM (ZaJ (pv 5)))
 case bgk => exact (Za0 (ZbS (Za0 (Zaa (pv 7) Zad)) Zad))
 case bgh => exact (ZaC (ZdP (K := K) rfl) (pv 2) (ZaJ (Zas Za8 (pv 5) Zab)) ZaM)
 case bfr => exact Zam
 case' bfo => refine' Zaf ?bgl
 case' bgl => refine' Zan ?bgm
 case' bgm => refine' Zas ?bgn ?bgo ?bgp
 case bgn => exact (Zcg (K := K) rfl)
 case bgo => exact (Zas (Zcg (K := K) rfl) (ZaC (ZdP (K := K) rfl) (pv 2) ZaM (ZaJ (pv 5))) (Za0 (Zaa (pv 7) Zad)))
 case bgp => exact (ZaC (ZdP (K := K) rfl) (pv 2) (ZaJ (Zas Za8 (pv 5) Zab)) ZaM)
 walk_at "rd"
 refine Zaj pk.at_ rfl ?_
 walk_at "rd"
 refine Zav (fun e3 => ?_) (fun n3 => ?_)
 ·walk_at "rd"
  refine Zaj pk.at_ rfl ?_
  walk_at "rd"
  walk_at "mk"; intro q1 hq1
  have s1 := Same.new (o := .tup [V.int nm]) hq1
  have e1 : upd H q1 (.tup [V.int nm]) q1 = some (.tup [V.int nm]) := Zac
  generalize upd H q1 (.tup [V.int nm]) = H1 at s1 e1
  refine ZbF (s1 _ _ ht) e1 (by simp; lia) fun q2 H2 e2 s2 => ?_
  have s02 := s1.trans s2
  exact fin w0 (ps ++ [.int nm]) (xs ++ [.int nm]) q2 H2 (by rw [e2]; rfl) ((rx.mono s02.ts).append (Zap Zbq ZaE)) (by lia) (by simp; lia) (fun d hd => by
   rcases List.mem_append.mp hd with hd | hd
   ·exact hpM d hd
   ·exact .inl ⟨nm, by simpa using hd, pk.nmS⟩) s02
 ·walk_at "rd"
  refine Zaj pk.at_ rfl ?_
  walk_at "rd"
  refine Zav (fun e4 => ?_) (fun n4 => ?_)
  ·walk_at "rd"
   refine Zaj pk.at_ rfl ?_
   walk_at "rd"
   refine Zb3 (SqT.of ht) ?_
   walk_at "rd"
   refine rd_I (by simp) ?_
   walk_at "rd"
   refine Zce ht fun q1 H1 e1 s1 => ?_
   obtain ⟨n, hn⟩ : ∃ n : Nat, p3 % (((V.str w0 :: xs).length : Nat) : Int) = n := ⟨(p3 % (((V.str w0 :: xs).length : Nat) : Int)).toNat, (Int.toNat_of_nonneg (Int.emod_nonneg _ (by simp; lia))).symm⟩
   have hn1 : n < (V.str w0 :: xs).length := by
    have := Int.emod_lt_of_pos p3 (show (0 : Int) < (((V.str w0 :: xs).length : Nat) : Int) by simp)
    lia
   rw [hn, show (1 : Int) + (n : Int) = ((n + 1 : Nat) : Int) by lia, ZeK (by lia)] at e1
   exact fin w0 (ps.take n) (xs.take n) q1 H1 e1 ((rx.mono s1.ts).take n) (by lia) (by rw [List.length_take]; lia) (fun d hd => hpM d (List.mem_of_mem_take hd)) s1
  ·walk_at "rd"
   refine Zaj pk.at_ rfl ?_
   walk_at "rd"
   refine Zav (fun e5 => ?_) (fun n5 => ?_)
   ·walk_at "rd"
    refine use0 (b := fun H Q => ∀ p H', H p = none -> H' p = some (.dK lettersKV) -> Same H H' -> Q (.ref p) H') fun pd H1 hpd hd1 s1 => ?_
    walk_at "rd"
    refine ⟨pd, lettersKV, rfl, hd1, fun pl hpl => ?_⟩
    have s2 := Same.new (o := .lst (lettersKV.map fun q => kV q.1)) hpl
    have e2 : upd H1 pl (.lst (lettersKV.map fun q => kV q.1)) pl = some (.lst (lettersKV.map fun q => kV q.1)) := Zac
    generalize upd H1 pl (.lst (lettersKV.map fun q => kV q.1)) = H2 at s2 e2
    walk_at "rd"
    refine ⟨show 11 <= PySem.sizeLine by rw [PySem.sizeLine_eq]; decide, fun pe hpe => ?_⟩
    have s3 := Same.new (o := .lst (els.map V.str)) hpe
    have e3 : upd H2 pe (.lst (els.map V.str)) pe = some (.lst (els.map V.str)) := Zac
    unfold els at s3 e3
    simp only [List.map_cons, List.map_nil] at s3 e3
    generalize upd H2 pe (.lst [V.str (Str.ofString ""), V.str (Str.ofString "Put"), V.str (Str.ofString "puts"), V.str (Str.ofString "def"), V.str (Str.ofString "lane"), V.str (Str.ofString "call "), V.str (Str.ofString "jum"), V.str (Str.ofString "rest"), V.str (Str.ofString "go"), V.str (Str.ofString "hold"), V.str (Str.ofString "edge")]) = H3 at s3 e3
    refine ZcH (s3 _ _ e2) e3 (show 23 <= PySem.sizeLine by rw [PySem.sizeLine_eq]; decide) fun pf hpf => ?_
    have s4 := Same.new (o := .lst (allW.map V.str)) hpf
    have e4 : upd H3 pf (.lst (allW.map V.str)) pf = some (.lst (allW.map V.str)) := Zac
    rw [show allW.map V.str = (lettersKV.map fun q => kV q.1) ++ [V.str (Str.ofString ""), V.str (Str.ofString "Put"), V.str (Str.ofString "puts"), V.str (Str.ofString "def"), V.str (Str.ofString "lane"), V.str (Str.ofString "call "), V.str (Str.ofString "jum"), V.str (Str.ofString "rest"), V.str (Str.ofString "go"), V.str (Str.ofString "hold"), V.str (Str.ofString "edge")] from rfl] at s4 e4
    generalize upd H3 pf (.lst ((lettersKV.map fun q => kV q.1) ++ [V.str (Str.ofString ""), V.str (Str.ofString "Put"), V.str (Str.ofString "puts"), V.str (Str.ofString "def"), V.str (Str.ofString "lane"), V.str (Str.ofString "call "), V.str (Str.ofString "jum"), V.str (Str.ofString "rest"), V.str (Str.ofString "go"), V.str (Str.ofString "hold"), V.str (Str.ofString "edge")])) = H4 at s4 e4
    have e4 : H4 pf = some (.lst (allW.map V.str)) := e4
    have s04 := ((s1.trans s2).trans s3).trans s4
    have pk4 := pk.mono s04
    have hp3 : p3.toNat < allW.length := by
     have : allW.length = 23 := rfl
     have := pk.b3
     lia
    have hW : allW[p3.toNat].length <= 10 := by
     have : ∀ x ∈ allW, x.length <= 10 := by decide +kernel
     exact this _ (List.getElem_mem hp3)
    walk_at "rd"
    refine Zaj pk4.at_ rfl ?_
    refine Zaj e4 (ZaV (n := p3.toNat) (by have := pk.b3; lia) (by rw [List.getElem?_map, List.getElem?_eq_getElem hp3]; rfl)) ?_
    walk_at "rd"
    refine Zaj pk4.at_ rfl ?_
    walk_at "rd"
    refine Za6 (s04 _ _ ht) (ZaV (n := 0) rfl rfl) ?_
    walk_at "rd"
    refine Zaj pk4.at_ rfl ?_
    have hbw := pk.bw
    refine ⟨w0, wd, rfl, rfl, Zax (by lia), ?_⟩
    walk_at "rd"
    refine ⟨show 3 <= PySem.sizeLine by rw [PySem.sizeLine_eq]; decide, fun pg hpg => ?_⟩
    have s5 := Same.new (o := .lst [V.str allW[p3.toNat], V.str wd, V.str (w0 ++ wd)]) hpg
    have e5 : upd H4 pg (.lst [V.str allW[p3.toNat], V.str wd, V.str (w0 ++ wd)]) pg = some (.lst [V.str allW[p3.toNat], V.str wd, V.str (w0 ++ wd)]) := Zac
    generalize upd H4 pg (.lst [V.str allW[p3.toNat], V.str wd, V.str (w0 ++ wd)]) = H5 at s5 e5
    walk_at "rd"
    refine Zaj (pk4.mono s5).at_ rfl ?_
    have hsel : ∃ ws : Str, atI [V.str allW[p3.toNat], V.str wd, V.str (w0 ++ wd)] p4 = some (.str ws) /\ ws.length <= 2 * m + 11 := by
     have h4 : p4 = 0 \/ p4 = 1 \/ p4 = 2 := by have := pk.b4; lia
     rcases h4 with rfl | rfl | rfl
     ·exact ⟨_, rfl, by lia⟩
     ·exact ⟨_, rfl, by lia⟩
     ·refine ⟨_, rfl, ?_⟩
      have : (w0 ++ wd).length = w0.length + wd.length := by
       show (w0.cps ++ wd.cps).size = _
       simp; rfl
      lia
    obtain ⟨ws, ew, lw⟩ := hsel
    refine Zaj e5 ew ?_
    walk_at "rd"
    refine ⟨show 1 <= PySem.sizeLine by rw [PySem.sizeLine_eq]; decide, fun ph hph => ?_⟩
    have s6 := Same.new (o := .tup [V.str ws]) hph
    have e6 : upd H5 ph (.tup [V.str ws]) ph = some (.tup [V.str ws]) := Zac
    generalize upd H5 ph (.tup [V.str ws]) = H6 at s6 e6
    have s06 := (s04.trans s5).trans s6
    walk_at "rd"
    refine Zf4 (s06 _ _ ht) fun pi hpi => ?_
    have s7 := Same.new (o := .tup xs) hpi
    have e7 : upd H6 pi (.tup xs) pi = some (.tup xs) := Zac
    generalize upd H6 pi (.tup xs) = H7 at s7 e7
    refine ZbF (s7 _ _ e6) e7 (by simp; lia) fun pj H8 e8 s8 => ?_
    have s08 := (s06.trans s7).trans s8
    exact fin ws ps xs pj H8 e8 (rx.mono s08.ts) lw (by lia) hpM s08
   ·walk_at "rd"
    refine Zb3 (SqT.of ht) ?_
    walk_at "rd"
    refine Zav (fun el => ?_) (fun nl => ?_)
    ·walk_at "rd"
     refine Zaj pk.at_ rfl ?_
     walk_at "rd"
     refine ⟨show 1 <= PySem.sizeLine by rw [PySem.sizeLine_eq]; decide, fun q1 hq1 => ?_⟩
     have s1 := Same.new (o := .tup [V.int nm]) hq1
     have e1 : upd H q1 (.tup [V.int nm]) q1 = some (.tup [V.int nm]) := Zac
     generalize upd H q1 (.tup [V.int nm]) = H1 at s1 e1
     walk_at "rd"
     refine ⟨show 1 <= PySem.sizeLine by rw [PySem.sizeLine_eq]; decide, fun q2 hq2 => ?_⟩
     have s2 := Same.new (o := .tup [V.ref q1]) hq2
     have e2 : upd H1 q2 (.tup [V.ref q1]) q2 = some (.tup [V.ref q1]) := Zac
     generalize upd H1 q2 (.tup [V.ref q1]) = H2 at s2 e2
     have s02 := s1.trans s2
     refine ZbF (s02 _ _ ht) e2 (by simp; lia) fun q3 H3 e3 s3 => ?_
     have s03 := s02.trans s3
     have r1 : Rep H3 (.tup ([nm].map D.int)) (.ref q1) := ZcP (s3 _ _ (s2 _ _ e1))
     exact fin w0 (ps ++ [.tup ([nm].map D.int)]) (xs ++ [.ref q1]) q3 H3 (by rw [e3]; rfl) ((rx.mono s03.ts).append (Zap r1 ZaE)) (by lia) (by simp; lia) (fun d hd => by
      rcases List.mem_append.mp hd with hd | hd
      ·exact hpM d hd
      ·exact .inr ⟨[nm], by simpa using hd, by simp, ZgM pk.nmS⟩) s03
    ·walk_at "rd"
     have hps : 0 < ps.length := by
      have : ¬ (((V.str w0 :: xs).length : Nat) : Int) = 1 := nl
      simp at this
      lia
     refine Zaj pk.at_ rfl ?_
     walk_at "rd"
     refine Zb3 (SqT.of ht) ?_
     walk_at "rd"
     refine rd_I (by rw [List.length_cons]; lia) ?_
     have hL : (((V.str w0 :: xs).length : Nat) : Int) = (ps.length : Int) + 1 := by rw [List.length_cons]; lia
     obtain ⟨j, hj⟩ : ∃ j : Nat, p3 % ((((V.str w0 :: xs).length : Nat) : Int) - 1) = j := ⟨(p3 % ((((V.str w0 :: xs).length : Nat) : Int) - 1)).toNat, (Int.toNat_of_nonneg (Int.emod_nonneg _ (by lia))).symm⟩
     have hj1 : j < ps.length := by
      have := Int.emod_lt_of_pos p3 (show (0 : Int) < (((V.str w0 :: xs).length : Nat) : Int) - 1 by lia)
      lia
     rw [hj]
     have hjx : j < xs.length := by lia
     walk_at "rd"
     refine use4 ⟨p, vs, d, (w0, ps), 1 + (j : Int), rfl, hp, DA, rr, rfl, by lia, hbx, hrl, hvl, fun bd H1 hbd s1 => ?_⟩
     walk_at "rd"
     refine rd_I ⟨by decide, by decide, by decide⟩ ?_
     walk_at "rd"
     generalize hmx : (if (1 : Int) - 10 ^ Int.toNat 60 > bd - 1 then (1 : Int) - 10 ^ Int.toNat 60 else bd - 1) = mx
     have hmxS : Za3 mx := by
      have e60 : (10 : Int) ^ Int.toNat 60 = 10 ^ 60 := rfl
      rw [e60] at hmx
      unfold Za3 at hbd ⊢
      rw [<- hmx]
      split <;> lia
     walk_at "rd"
     refine ⟨show 3 <= PySem.sizeLine by rw [PySem.sizeLine_eq]; decide, fun q2 hq2 => ?_⟩
     have s2 := Same.new (o := .lst [V.int bd, V.int mx, V.int (-1)]) hq2
     have e2 : upd H1 q2 (.lst [V.int bd, V.int mx, V.int (-1)]) q2 = some (.lst [V.int bd, V.int mx, V.int (-1)]) := Zac
     generalize upd H1 q2 (.lst [V.int bd, V.int mx, V.int (-1)]) = H2 at s2 e2
     have s02 := s1.trans s2
     walk_at "rd"
     refine Zaj (pk.mono s02).at_ rfl ?_
     have hsel : ∃ z : Int, atI [V.int bd, V.int mx, V.int (-1)] p4 = some (.int z) /\ Za3 z := by
      have h4 : p4 = 0 \/ p4 = 1 \/ p4 = 2 := by have := pk.b4; lia
      rcases h4 with rfl | rfl | rfl
      ·exact ⟨_, rfl, hbd⟩
      ·exact ⟨_, rfl, hmxS⟩
      ·exact ⟨_, rfl, by unfold Za3; decide⟩
     obtain ⟨me0, em0, hme0⟩ := hsel
     refine Zaj e2 em0 ?_
     refine ZcN ?_
     try dsimp +zetaDelta only
     refine ZcG (fun σ' H' => (∃ me : Int, Za3 me /\ σ' = [some (.ref p), some v2, some (.ref t), some (.ref b), none, some (.int (1 + (j : Int))), some (.int bd), some (.int me)]) /\ Same H H') ?_ fun N hN => ?_
     ·rintro σ' HA ⟨⟨me, hme, rfl⟩, sA⟩
      have hrow : atI (V.str w0 :: xs) (1 + (j : Int)) = some xs[j] := ZaV (n := j + 1) (by lia) (by simp [hjx])
      obtain ⟨rj0, erj, rj⟩ := rx.get' (List.getElem?_eq_getElem hjx)
      rw [List.getElem?_eq_getElem hj1] at erj
      cases erj
      walk_at "rd"
      refine Za6 (sA _ _ ht) hrow ?_
      walk_at "rd"
      rcases hp0 _ (List.getElem_mem hj1) with ⟨nj, enj, _⟩ | hint
      ·have ev : xs[j] = .int nj := by rw [enj] at rj; exact ZaL rj
       refine ZaZ (t := "int") (by rw [ev]; rfl) (by simp) (ZbG (iteF ?_))
       walk_at "rd"
       refine Zaj (pk.mono sA).at_ rfl ?_
       walk_at "rd"
       refine Zav (fun e6 => ?_) (fun n6 => ?_)
       ·walk_at "rd"
        refine Za6 (sA _ _ ht) hrow ?_
        walk_at "rd"
        refine ZaZ (t := "int") (by rw [ev]; rfl) (by simp) (ZbG (iteNF ?_))
        walk_at "rd"
        refine Zce (sA _ _ ht) fun qa Ha ea sa => ?_
        rw [show (1 : Int) + (j : Int) = ((j + 1 : Nat) : Int) by lia, ZeK (by simp; lia)] at ea
        have ea : Ha qa = some (.tup (V.str w0 :: xs.take j)) := ea
        have sAa := sA.trans sa
        walk_at "rd"
        refine ⟨show 1 <= PySem.sizeLine by rw [PySem.sizeLine_eq]; decide, fun qx hqx => ?_⟩
        have sx := Same.new (o := .tup [V.int me]) hqx
        have ex : upd Ha qx (.tup [V.int me]) qx = some (.tup [V.int me]) := Zac
        generalize upd Ha qx (.tup [V.int me]) = Hx at sx ex
        obtain ⟨dz, zv, ezv, rzm, pz⟩ : ∃ dz zv, zv = V.ref qx /\ Rep Hx dz zv /\ PartM (2 * m + 11) dz := ⟨_, _, rfl, ZcP (ns := [me]) ex, .inr ⟨_, rfl, by simp, ZgM hme⟩⟩
        obtain ⟨Hm, ehm, sm⟩ : ∃ Hm, Hm = Hx /\ Same Ha Hm := ⟨_, rfl, sx⟩
        rw [<- ehm] at rzm
        rw [<- ehm]
        rw [<- ezv]
        walk_at "rd"
        refine ⟨show 1 <= PySem.sizeLine by rw [PySem.sizeLine_eq]; decide, fun qb hqb => ?_⟩
        have sb := Same.new (o := .tup [zv]) hqb
        have eb : upd Hm qb (.tup [zv]) qb = some (.tup [zv]) := Zac
        generalize upd Hm qb (.tup [zv]) = Hb at sb eb
        refine ZbF (sb _ _ (sm _ _ ea)) eb (by simp; lia) fun qc Hc ec sc => ?_
        have sAc := ((sAa.trans sm).trans sb).trans sc
        walk_at "rd"
        refine Zce (sAc _ _ ht) fun qd Hd ed sd => ?_
        rw [show (1 : Int) + (j : Int) + 1 = ((j + 2 : Nat) : Int) by lia, Zch (by simp; lia)] at ed
        have ed : Hd qd = some (.tup (xs.drop (j + 1))) := ed
        refine ZbF (sd _ _ ec) ed (by simp; lia) fun qe He ee se => ?_
        have sAe := (sAc.trans sd).trans se
        have rz : Rep He dz zv := rzm.mono (((sb.trans sc).trans sd).trans se).ts
        refine fin w0 (ps.take j ++ dz :: ps.drop (j + 1)) (xs.take j ++ zv :: xs.drop (j + 1)) qe He (by rw [ee]; simp) (((rx.mono sAe.ts).take j).append (Zap rz ((rx.mono sAe.ts).drop (j + 1)))) (by lia) (by simp; lia) (fun d hd => ?_) sAe
        rcases List.mem_append.mp hd with hd | hd
        ·exact hpM d (List.mem_of_mem_take hd)
        ·rcases List.mem_cons.mp hd with rfl | hd
         ·exact pz
         ·exact hpM d (List.mem_of_mem_drop hd)
       ·walk_at "rd"
        refine Zce (sA _ _ ht) fun qa Ha ea sa => ?_
        rw [show (1 : Int) + (j : Int) = ((j + 1 : Nat) : Int) by lia, ZeK (by simp; lia)] at ea
        have ea : Ha qa = some (.tup (V.str w0 :: xs.take j)) := ea
        have sAa := sA.trans sa
        walk_at "rd"
        obtain ⟨dz, zv, Hm, ezv, ehm, rzm, pz, sm⟩ : ∃ dz zv Hm, zv = V.int me /\ Hm = Ha /\ Rep Hm dz zv /\ PartM (2 * m + 11) dz /\ Same Ha Hm := ⟨.int me, _, _, rfl, rfl, Zbq, .inl ⟨me, rfl, hme⟩, Same.refl _⟩
        rw [<- ezv, <- ehm]
        refine ⟨show 1 <= PySem.sizeLine by rw [PySem.sizeLine_eq]; decide, fun qb hqb => ?_⟩
        have sb := Same.new (o := .tup [zv]) hqb
        have eb : upd Hm qb (.tup [zv]) qb = some (.tup [zv]) := Zac
        generalize upd Hm qb (.tup [zv]) = Hb at sb eb
        refine ZbF (sb _ _ (sm _ _ ea)) eb (by simp; lia) fun qc Hc ec sc => ?_
        have sAc := ((sAa.trans sm).trans sb).trans sc
        walk_at "rd"
        refine Zce (sAc _ _ ht) fun qd Hd ed sd => ?_
        rw [show (1 : Int) + (j : Int) + 1 = ((j + 2 : Nat) : Int) by lia, Zch (by simp; lia)] at ed
        have ed : Hd qd = some (.tup (xs.drop (j + 1))) := ed
        refine ZbF (sd _ _ ec) ed (by simp; lia) fun qe He ee se => ?_
        have sAe := (sAc.trans sd).trans se
        have rz : Rep He dz zv := rzm.mono (((sb.trans sc).trans sd).trans se).ts
        refine fin w0 (ps.take j ++ dz :: ps.drop (j + 1)) (xs.take j ++ zv :: xs.drop (j + 1)) qe He (by rw [ee]; simp) (((rx.mono sAe.ts).take j).append (Zap rz ((rx.mono sAe.ts).drop (j + 1)))) (by lia) (by simp; lia) (fun d hd => ?_) sAe
        rcases List.mem_append.mp hd with hd | hd
        ·exact hpM d (List.mem_of_mem_take hd)
        ·rcases List.mem_cons.mp hd with rfl | hd
         ·exact pz
         ·exact hpM d (List.mem_of_mem_drop hd)
      ·obtain ⟨nsj, ensj, lsj, _⟩ := _root_.id hint
       have tj : tyN HA xs[j] = some "tuple" := by rw [ensj] at rj; exact ZhX (rj.mono sA.ts)
       refine ZaZ tj (by simp) (ZbG (iteT ?_))
       walk_at "rd"
       refine Zaj (pk.mono sA).at_ rfl ?_
       walk_at "rd"
       refine ZdN (fun n6 => ?_) (fun e6 => ?_)
       ·walk_at "rd"
        refine Zce (sA _ _ ht) fun qa Ha ea sa => ?_
        rw [show (1 : Int) + (j : Int) = ((j + 1 : Nat) : Int) by lia, ZeK (by simp; lia)] at ea
        have ea : Ha qa = some (.tup (V.str w0 :: xs.take j)) := ea
        have sAa := sA.trans sa
        walk_at "rd"
        refine Za6 (sAa _ _ ht) hrow ?_
        walk_at "rd"
        refine use3 ⟨m, ps[j], b, p0, p1, p2, p3, p4, nm, wd, me, rj.mono sAa.ts, hint, by lia, rfl, pk.mono sAa, rfl, hme, fun dz zv Hm pz0 rzm sm => ?_⟩
        have pz : PartM (2 * m + 11) dz := .inr (by obtain ⟨a, b, c, e⟩ := pz0; exact ⟨a, b, by lia, e⟩)
        walk_at "rd"
        refine ⟨show 1 <= PySem.sizeLine by rw [PySem.sizeLine_eq]; decide, fun qb hqb => ?_⟩
        have sb := Same.new (o := .tup [zv]) hqb
        have eb : upd Hm qb (.tup [zv]) qb = some (.tup [zv]) := Zac
        generalize upd Hm qb (.tup [zv]) = Hb at sb eb
        refine ZbF (sb _ _ (sm _ _ ea)) eb (by simp; lia) fun qc Hc ec sc => ?_
        have sAc := ((sAa.trans sm).trans sb).trans sc
        walk_at "rd"
        refine Zce (sAc _ _ ht) fun qd Hd ed sd => ?_
        rw [show (1 : Int) + (j : Int) + 1 = ((j + 2 : Nat) : Int) by lia, Zch (by simp; lia)] at ed
        have ed : Hd qd = some (.tup (xs.drop (j + 1))) := ed
        refine ZbF (sd _ _ ec) ed (by simp; lia) fun qe He ee se => ?_
        have sAe := (sAc.trans sd).trans se
        have rz : Rep He dz zv := rzm.mono (((sb.trans sc).trans sd).trans se).ts
        refine fin w0 (ps.take j ++ dz :: ps.drop (j + 1)) (xs.take j ++ zv :: xs.drop (j + 1)) qe He (by rw [ee]; simp) (((rx.mono sAe.ts).take j).append (Zap rz ((rx.mono sAe.ts).drop (j + 1)))) (by lia) (by simp; lia) (fun d hd => ?_) sAe
        rcases List.mem_append.mp hd with hd | hd
        ·exact hpM d (List.mem_of_mem_take hd)
        ·rcases List.mem_cons.mp hd with rfl | hd
         ·exact pz
         ·exact hpM d (List.mem_of_mem_drop hd)
       ·walk_at "rd"
        refine Zaj (pk.mono sA).at_ rfl ?_
        walk_at "rd"
        refine ZeH e6 ?_
        walk_at "rd"
        refine Za6 (sA _ _ ht) hrow ?_
        walk_at "rd"
        refine ZaZ tj (by simp) (ZbG (Zgk ?_))
        walk_at "rd"
        refine Zce (sA _ _ ht) fun qa Ha ea sa => ?_
        rw [show (1 : Int) + (j : Int) = ((j + 1 : Nat) : Int) by lia, ZeK (by simp; lia)] at ea
        have ea : Ha qa = some (.tup (V.str w0 :: xs.take j)) := ea
        have sAa := sA.trans sa
        walk_at "rd"
        obtain ⟨dz, zv, Hm, ezv, ehm, rzm, pz, sm⟩ : ∃ dz zv Hm, zv = V.int me /\ Hm = Ha /\ Rep Hm dz zv /\ PartM (2 * m + 11) dz /\ Same Ha Hm := ⟨.int me, _, _, rfl, rfl, Zbq, .inl ⟨me, rfl, hme⟩, Same.refl _⟩
        rw [<- ezv, <- ehm]
        refine ⟨show 1 <= PySem.sizeLine by rw [PySem.sizeLine_eq]; decide, fun qb hqb => ?_⟩
        have sb := Same.new (o := .tup [zv]) hqb
        have eb : upd Hm qb (.tup [zv]) qb = some (.tup [zv]) := Zac
        generalize upd Hm qb (.tup [zv]) = Hb at sb eb
        refine ZbF (sb _ _ (sm _ _ ea)) eb (by simp; lia) fun qc Hc ec sc => ?_
        have sAc := ((sAa.trans sm).trans sb).trans sc
        walk_at "rd"
        refine Zce (sAc _ _ ht) fun qd Hd ed sd => ?_
        rw [show (1 : Int) + (j : Int) + 1 = ((j + 2 : Nat) : Int) by lia, Zch (by simp; lia)] at ed
        have ed : Hd qd = some (.tup (xs.drop (j + 1))) := ed
        refine ZbF (sd _ _ ec) ed (by simp; lia) fun qe He ee se => ?_
        have sAe := (sAc.trans sd).trans se
        have rz : Rep He dz zv := rzm.mono (((sb.trans sc).trans sd).trans se).ts
        refine fin w0 (ps.take j ++ dz :: ps.drop (j + 1)) (xs.take j ++ zv :: xs.drop (j + 1)) qe He (by rw [ee]; simp) (((rx.mono sAe.ts).take j).append (Zap rz ((rx.mono sAe.ts).drop (j + 1)))) (by lia) (by simp; lia) (fun d hd => ?_) sAe
        rcases List.mem_append.mp hd with hd | hd
        ·exact hpM d (List.mem_of_mem_take hd)
        ·rcases List.mem_cons.mp hd with rfl | hd
         ·exact pz
         ·exact hpM d (List.mem_of_mem_drop hd)
     ·walk_at "rd"
      refine Zaj (pk.mono s02).at_ rfl ?_
      walk_at "rd"
      refine Zav (fun e => ?_) (fun ne => ?_)
      ·walk_at "rd"
       refine Zaj (pk.mono s02).at_ rfl ?_
       walk_at "rd"
       exact hN _ _ ⟨⟨nm, pk.nmS, rfl⟩, s02⟩
      ·walk_at "rd"
       exact hN _ _ ⟨⟨me0, hme0, rfl⟩, s02⟩
theorem Zgq {xs : List V} {lo hi : Option Int} : ∃ a c, cutV xs lo hi = (xs.drop a).take c := ⟨_, _, rfl⟩
theorem ZkX {m : Nat} (h : 5 <= m) {w : Str} (hw : w.length <= 5) {ns : List Int} (hn : ns.length <= 5) (hs : ∀ n ∈ ns, n = 0) : RowB m (w, ns.map D.int) := ⟨by dsimp only; lia, by dsimp only; rw [List.length_map]; lia, fun d hd => by
 obtain ⟨n, hm, rfl⟩ := List.mem_map.mp hd
 exact .inl ⟨n, rfl, by rw [hs n hm]; unfold Za3; decide⟩⟩
inductive Pr_bent_rows (x y : V) (H : Hp) (Q : VK) : Prop
 | mk (m : Nat) (q : Addr) (ys : List V) (rs : List (Str × List D)) (b : Addr) (p0 p1 p2 p3 p4 nm : Int) (wd : Str) (_ : x = .ref q) (_ : H q = some (.lst ys)) (_ : Reps H (rs.map rowD) ys) (_ : ∀ r ∈ rs, RowB m r) (_ : 5 <= m) (_ : rs.length <= 2000) (_ : y = .ref b) (_ : PickOk H b p0 p1 p2 p3 p4 nm wd) (_ : ∀ (q' : Addr) (ys' : List V) (rs' : List (Str × List D)) (H' : Hp), H' q' = some (.lst ys') -> Reps H' (rs'.map rowD) ys' -> (∀ r ∈ rs', RowB m r) -> rs'.length <= rs.length + 400 -> Same H H' -> Q (.ref q') H') : Pr_bent_rows x y H Q
noncomputable def ZdH : Sp := sp2 (Pr_bent_rows)
theorem sc__law_bent_rows : FnScope ["rows", "pick", "way"] ["rows", "pick"] (Zag ZaR) := ⟨rfl, rfl, rfl, by decide +kernel, rfl, by decide +kernel, by decide +kernel⟩
theorem ZdR (B : Blt mg) (T__law_bent_rows : TopFn K mg "_law_bent_rows" ZaR ["rows", "pick"]) : Callee P w K mg base "_law_bent_rows" 1 ["rows", "pick"] ZdH := by
 refine T__law_bent_rows.ok2 sc__law_bent_rows fun f cdv A outer s H v1 v2 Q E hr h => ?_
 have nd := sc__law_bent_rows.nd
 obtain ⟨m, q, ys, rs, b, p0, p1, p2, p3, p4, nm, wd, rfl, hq, ry, hB, hm, hl, rfl, pk, k⟩ := h
 have hyl := ry.length
 rw [List.length_map] at hyl
 refine' ZaI [some (.ref q), some (.ref b), none] rfl ?hb ?hg
 case' hb => refine' Zae ?bab ?bac
 case bab => exact (Zbr (i := 2) nd rfl (Or.inl rfl) (Zas Zb2 (Zao (k_ix (K := K) rfl) (pv 1) Zab (fun _ _ => rfl)) Zab))
 case' bac => refine' Zae ?bad ?bae
 case' bad => refine' ZaF ?baf ?bag ?bah
 case baf => exact (Zal Za1 (pv 2) Zab (Zar _))
 case bag => exact (Zaf (Zan (ZaC (k_sl (K := K) rfl) (pv 0) ZaM (ZaJ (ZeZ Zc5 Zab)))))
 case bah => exact Zam
 case' bae => refine' Zae ?bai ?baj
 case bai => exact (ZaF (Zal Za1 (pv 2) Zab (Zar _)) (Zaf (Zan (Za9 Zad))) Zam)
 case' baj => refine' Zae ?bak ?bal
 case' bak => refine' ZaF ?bam ?ban ?bao
 case bam => exact (Zal Za1 (pv 2) Zab (Zar _))
 case' ban => refine' Zaf ?bap
 case' bap => refine' Zan ?baq
 case' baq => refine' Zas ?bar ?bas ?bat
 case bar => exact ZcB
 case' bas => refine' Zas ?bau ?bav ?baw
 case bau => exact ZiL
 case bav => exact (Za9 (ZbS (Za0 (Zah Zaw (Zah Zab Zad))) Zad))
 case' baw => refine' Zas ?bax ?bay ?baz
 case bax => exact ZcI
 case' bay => refine' Zas ?bba ?bbb ?bbc
 case bba => exact Za8
 case bbb => exact Zab
 case' bbc => refine' Zao ?bbd ?bbe ?bbf ?bbg
 case bbd => exact (k_ix (K := K) rfl)
 case bbe => exact (Za9 (Zah Zab (Zah Zab (Zah Zab Zad))))
 case bbf => exact (Zao (k_ix (K := K) rfl) (pv 1) Zab (fun _ _ => rfl))
 case bbg => exact (fun _ _ => rfl)
 case baz => exact (Zai (Zbt (K := K) rfl) (by rfl) B.b_len ZaW (Zaa (pv 0) Zad))
 case bat => exact (pv 0)
 case bao => exact Zam
 case' bal => refine' Zae ?bbh ?bbi
 case' bbh => refine' ZaF ?bbj ?bbk ?bbl
 case bbj => exact (Zal Za1 (pv 2) Zab (Zar _))
 case' bbk => refine' Zaf ?bbm
 case' bbm => refine' Zan ?bbn
 case' bbn => refine' Zas ?bbo ?bbp ?bbq
 case bbo => exact ZcB
 case bbp => exact (pv 0)
 case' bbq => refine' Za9 ?bbr
 case' bbr => refine' Zau ?bbs ?bbt
 case' bbs => refine' Zao ?bbu ?bbv ?bbw ?bbx
 case bbu => exact (k_ix (K := K) rfl)
 case' bbv => refine' Za9 ?bby
 case' bby => refine' ZbS ?bbz ?bca
 case bbz => exact (Za0 (Zah Zaw (Zah Zab Zad)))
 case' bca => refine' ZbS ?bcb ?bcc
 case bcb => exact (Za0 (Zah Zaw (Zah Zab Zad)))
 case' bcc => refine' ZbS ?bcd ?bce
 case bcd => exact (Za0 (Zah Zaw (Zah Zab (Zah Zab Zad))))
 case bce => exact (ZbS (Za0 (Zah Zaw (Zah Zab Zad))) (ZbS (Za0 (Zah Zaw (Zah Zab Zad))) Zad))
 case bbw => exact (Zao (k_ix (K := K) rfl) (pv 1) Zab (fun _ _ => rfl))
 case bbx => exact (fun _ _ => rfl)
 case bbt => exact Zad
 case bbl => exact Zam
 case' bbi => refine' Zaf ?bcf
 case' bcf => refine' Zan ?bcg
 case' bcg => refine' ZaC ?bch ?bci ?bcj ?bck
 case bch => exact (k_sl (K := K) rfl)
 case bci => exact (pv 0)
 case bcj => exact ZaM
 case' bck => refine' ZaJ ?bcl
 case' bcl => refine' Zas ?bcm ?bcn ?bco
 case bcm => exact Zb2
 case bcn => exact (Zao (k_ix (K := K) rfl) (pv 1) Zab (fun _ _ => rfl))
 case bco => exact (Zas Za8 (Zai (Zbt (K := K) rfl) (by rfl) B.b_len ZaW (Zaa (pv 0) Zad)) Zab)
 walk_at "rd"
 refine Zaj pk.at_ rfl ?_
 walk_at "rd"
 refine rd_I (by lia) ?_
 walk_at "rd"
 refine Zav (fun e0 => ?_) (fun n0 => ?_)
 ·walk_at "rd"
  refine ⟨q, ys, rfl, SqL.of hq, fun q1 hq1 => ?_⟩
  obtain ⟨a, c, ec⟩ := Zgq (xs := ys) (lo := none) (hi := some (-1))
  have s1 := Same.new (o := .lst (cutV ys none (some (-1)))) hq1
  refine k q1 _ ((rs.drop a).take c) _ Zac ?_ (fun r hr => hB r (List.mem_of_mem_drop (List.mem_of_mem_take hr))) (by rw [List.length_take, List.length_drop]; lia) s1
  have r := ((ry.mono s1.ts).drop a).take c
  rw [<- ec, <- List.map_drop, <- List.map_take] at r
  exact r
 ·walk_at "rd"
  refine Zav (fun e1 => ?_) (fun n1 => ?_)
  ·walk_at "rd"
   walk_at "mk"; intro q1 hq1
   exact k q1 [] [] _ Zac ZaE (fun r hr => by cases hr) (by simp) (Same.new hq1)
  ·walk_at "rd"
   refine Zav (fun e2 => ?_) (fun n2 => ?_)
   ·walk_at "rd"
    refine ⟨show 2 <= PySem.sizeLine by rw [PySem.sizeLine_eq]; decide, fun qa hqa => ?_⟩
    have sa := Same.new (o := HO.tup [V.str (Str.ofString "tell"), V.int 0]) hqa
    have ea : upd H qa (HO.tup [V.str (Str.ofString "tell"), V.int 0]) qa = some (HO.tup [V.str (Str.ofString "tell"), V.int 0]) := Zac
    generalize upd H qa (HO.tup [V.str (Str.ofString "tell"), V.int 0]) = Ha at sa ea
    walk_at "rd"
    refine ⟨show 1 <= PySem.sizeLine by rw [PySem.sizeLine_eq]; decide, fun qb hqb => ?_⟩
    have sb := Same.new (o := HO.lst [V.ref qa]) hqb
    have eb : upd Ha qb (HO.lst [V.ref qa]) qb = some (HO.lst [V.ref qa]) := Zac
    generalize upd Ha qb (HO.lst [V.ref qa]) = Hb at sb eb
    walk_at "rd"
    refine ⟨show 3 <= PySem.sizeLine by rw [PySem.sizeLine_eq]; decide, fun qc hqc => ?_⟩
    have sc := Same.new (o := HO.lst [V.int 0, V.int 1, V.int 369]) hqc
    have ec : upd Hb qc (HO.lst [V.int 0, V.int 1, V.int 369]) qc = some (HO.lst [V.int 0, V.int 1, V.int 369]) := Zac
    generalize upd Hb qc (HO.lst [V.int 0, V.int 1, V.int 369]) = Hc at sc ec
    walk_at "rd"
    have sac := (sa.trans sb).trans sc
    refine Zaj (pk.mono sac).at_ rfl ?_
    have hsel : ∃ z : Int, atI [V.int 0, V.int 1, V.int 369] p4 = some (.int z) /\ 0 <= z /\ z <= 369 := by
     have h4 : p4 = 0 \/ p4 = 1 \/ p4 = 2 := by have := pk.b4; lia
     rcases h4 with rfl | rfl | rfl
     ·exact ⟨_, rfl, by lia, by lia⟩
     ·exact ⟨_, rfl, by lia, by lia⟩
     ·exact ⟨_, rfl, by lia, by lia⟩
    obtain ⟨z, ez, z0, z1⟩ := hsel
    refine Zaj ec ez ?_
    walk_at "rd"
    refine ZaO (SqL.of (sac _ _ hq)) ?_
    walk_at "rd"
    refine ⟨qb, _, _, rfl, rfl, sc _ _ eb, by lia, by lia, Zax (by simp; lia), fun qd hqd => ?_⟩
    generalize hn : (30 + z - (ys.length : Int)).toNat = n
    have hn' : n <= 399 := by lia
    have efl : (List.replicate n [V.ref qa]).flatten = List.replicate n (V.ref qa) := by
     clear hn hn'
     induction n with
     | zero => rfl
     | succ n ih => rw [List.replicate_succ, List.flatten_cons, ih]; rfl
    rw [efl]
    have sd := Same.new (o := HO.lst (List.replicate n (V.ref qa))) hqd
    have ed : upd Hc qd (.lst (List.replicate n (V.ref qa))) qd = some (.lst (List.replicate n (V.ref qa))) := Zac
    generalize upd Hc qd (.lst (List.replicate n (V.ref qa))) = Hd at sd ed
    have sad := sac.trans sd
    walk_at "rd"
    refine ZcH ed (sad _ _ hq) (Zax (by simp; lia)) fun qe hqe => ?_
    have se := Same.new (o := HO.lst (List.replicate n (V.ref qa) ++ ys)) hqe
    have sae := sad.trans se
    have ra : Rep (upd Hd qe (.lst (List.replicate n (V.ref qa) ++ ys))) (rowD ("tell", [0].map D.int)) (.ref qa) := ZbP (se _ _ (sd _ _ (sc _ _ (sb _ _ ea)))) (Zap (by rw [Rep]) (Zap Zbq ZaE))
    have rn : Reps (upd Hd qe (.lst (List.replicate n (V.ref qa) ++ ys))) (List.replicate n (rowD ("tell", [0].map D.int))) (List.replicate n (V.ref qa)) := by
     clear hn hn' efl sd ed se sae
     generalize upd Hd qe _ = HZ at ra ⊢
     induction n with
     | zero => exact ZaE
     | succ n ih => rw [List.replicate_succ, List.replicate_succ]; exact Zap ra ih
    refine k qe _ (List.replicate n (("tell" : Str), [0].map D.int) ++ rs) _ Zac ?_ (fun r hr => ?_) (by simp; lia) sae
    ·rw [List.map_append, List.map_replicate]
     exact rn.append (ry.mono sae.ts)
    ·rcases List.mem_append.mp hr with hr | hr
     ·rw [(List.mem_replicate.mp hr).2]
      exact ZkX hm (by decide +kernel) (by simp) (by simp)
     ·exact hB r hr
   ·walk_at "rd"
    refine Zav (fun e3 => ?_) (fun n3 => ?_)
    ·walk_at "rd"
     refine ⟨show 2 <= PySem.sizeLine by rw [PySem.sizeLine_eq]; decide, fun qa hqa => ?_⟩
     have sa := Same.new (o := HO.tup [V.str (Str.ofString "tell"), V.int 0]) hqa
     have ea : upd H qa (HO.tup [V.str (Str.ofString "tell"), V.int 0]) qa = some (HO.tup [V.str (Str.ofString "tell"), V.int 0]) := Zac
     generalize upd H qa (HO.tup [V.str (Str.ofString "tell"), V.int 0]) = Ha at sa ea
     walk_at "rd"
     refine ⟨show 2 <= PySem.sizeLine by rw [PySem.sizeLine_eq]; decide, fun qb hqb => ?_⟩
     have sb := Same.new (o := HO.tup [V.str (Str.ofString "back"), V.int 0]) hqb
     have eb : upd Ha qb (HO.tup [V.str (Str.ofString "back"), V.int 0]) qb = some (HO.tup [V.str (Str.ofString "back"), V.int 0]) := Zac
     generalize upd Ha qb (HO.tup [V.str (Str.ofString "back"), V.int 0]) = Hb at sb eb
     walk_at "rd"
     refine ⟨show 3 <= PySem.sizeLine by rw [PySem.sizeLine_eq]; decide, fun qc hqc => ?_⟩
     have sc := Same.new (o := HO.tup [V.str (Str.ofString "zero"), V.int 0, V.int 0]) hqc
     have ec : upd Hb qc (HO.tup [V.str (Str.ofString "zero"), V.int 0, V.int 0]) qc = some (HO.tup [V.str (Str.ofString "zero"), V.int 0, V.int 0]) := Zac
     generalize upd Hb qc (HO.tup [V.str (Str.ofString "zero"), V.int 0, V.int 0]) = Hc at sc ec
     walk_at "rd"
     refine ⟨show 2 <= PySem.sizeLine by rw [PySem.sizeLine_eq]; decide, fun qd hqd => ?_⟩
     have sd := Same.new (o := HO.tup [V.str (Str.ofString "jump"), V.int 0]) hqd
     have ed : upd Hc qd (HO.tup [V.str (Str.ofString "jump"), V.int 0]) qd = some (HO.tup [V.str (Str.ofString "jump"), V.int 0]) := Zac
     generalize upd Hc qd (HO.tup [V.str (Str.ofString "jump"), V.int 0]) = Hd at sd ed
     walk_at "rd"
     refine ⟨show 2 <= PySem.sizeLine by rw [PySem.sizeLine_eq]; decide, fun qe hqe => ?_⟩
     have se := Same.new (o := HO.tup [V.str (Str.ofString "take"), V.int 0]) hqe
     have ee : upd Hd qe (HO.tup [V.str (Str.ofString "take"), V.int 0]) qe = some (HO.tup [V.str (Str.ofString "take"), V.int 0]) := Zac
     generalize upd Hd qe (HO.tup [V.str (Str.ofString "take"), V.int 0]) = He at se ee
     walk_at "rd"
     refine ⟨show 5 <= PySem.sizeLine by rw [PySem.sizeLine_eq]; decide, fun qf hqf => ?_⟩
     have sf := Same.new (o := HO.lst [V.ref qa, V.ref qb, V.ref qc, V.ref qd, V.ref qe]) hqf
     have ef : upd He qf (HO.lst [V.ref qa, V.ref qb, V.ref qc, V.ref qd, V.ref qe]) qf = some (HO.lst [V.ref qa, V.ref qb, V.ref qc, V.ref qd, V.ref qe]) := Zac
     generalize upd He qf (HO.lst [V.ref qa, V.ref qb, V.ref qc, V.ref qd, V.ref qe]) = Hf at sf ef
     walk_at "rd"
     have saf := ((((sa.trans sb).trans sc).trans sd).trans se).trans sf
     refine Zaj (pk.mono saf).at_ rfl ?_
     have hsel : ∃ (v : V) (w : Str) (ns : List Int), atI [V.ref qa, V.ref qb, V.ref qc, V.ref qd, V.ref qe] p4 = some v /\ w.length <= 5 /\ ns.length <= 5 /\ (∀ n ∈ ns, n = 0) /\ Rep Hf (rowD (w, ns.map D.int)) v := by
      have h4 : p4 = 0 \/ p4 = 1 \/ p4 = 2 := by have := pk.b4; lia
      rcases h4 with rfl | rfl | rfl
      ·exact ⟨_, "tell", [0], rfl, by decide +kernel, by decide, by simp, ZbP (sf _ _ (se _ _ (sd _ _ (sc _ _ (sb _ _ ea))))) (Zap (by rw [Rep]) (Zap Zbq ZaE))⟩
      ·exact ⟨_, "back", [0], rfl, by decide +kernel, by decide, by simp, ZbP (sf _ _ (se _ _ (sd _ _ (sc _ _ eb)))) (Zap (by rw [Rep]) (Zap Zbq ZaE))⟩
      ·exact ⟨_, "zero", [0, 0], rfl, by decide +kernel, by decide, by simp, ZbP (sf _ _ (se _ _ (sd _ _ ec))) (Zap (by rw [Rep]) (Zap Zbq (Zap Zbq ZaE)))⟩
     obtain ⟨v, w0, ns, ev, lw, ln, l0, rv⟩ := hsel
     refine Zaj ef ev ?_
     walk_at "rd"
     refine ⟨show 1 <= PySem.sizeLine by rw [PySem.sizeLine_eq]; decide, fun qg hqg => ?_⟩
     have sg := Same.new (o := HO.lst [v]) hqg
     have eg : upd Hf qg (HO.lst [v]) qg = some (HO.lst [v]) := Zac
     generalize upd Hf qg (HO.lst [v]) = Hg at sg eg
     have sag := saf.trans sg
     refine ZcH (sag _ _ hq) eg (Zax (by simp; lia)) fun qh hqh => ?_
     have sh := Same.new (o := HO.lst (ys ++ [v])) hqh
     have sah := sag.trans sh
     refine k qh _ (rs ++ [(w0, ns.map D.int)]) _ Zac ?_ (fun r hr => ?_) (by simp) sah
     ·rw [List.map_append]
      exact (ry.mono sah.ts).append (Zap (rv.mono (sg.trans sh).ts) ZaE)
     ·rcases List.mem_append.mp hr with hr | hr
      ·exact hB r hr
      ·have : r = (w0, ns.map D.int) := by simpa using hr
       rw [this]
       exact ZkX hm lw ln l0
    ·walk_at "rd"
     refine Zaj pk.at_ rfl ?_
     walk_at "rd"
     refine ZaO (SqL.of hq) ?_
     walk_at "rd"
     refine rd_I (by lia) ?_
     walk_at "rd"
     refine ⟨q, ys, rfl, SqL.of hq, fun q1 hq1 => ?_⟩
     generalize p2 % ((ys.length : Int) + 1) = hi
     obtain ⟨a, c, ec⟩ := Zgq (xs := ys) (lo := none) (hi := some hi)
     have s1 := Same.new (o := .lst (cutV ys none (some hi))) hq1
     refine k q1 _ ((rs.drop a).take c) _ Zac ?_ (fun r hr => hB r (List.mem_of_mem_drop (List.mem_of_mem_take hr))) (by rw [List.length_take, List.length_drop]; lia) s1
     have r := ((ry.mono s1.ts).drop a).take c
     rw [<- ec, <- List.map_drop, <- List.map_take] at r
     exact r
theorem DefsAt.sub {H : Hp} {ds : List PDef} {vs : List V} (h : DefsAt [] H ds vs) : ∀ {ws : List V}, (∀ v ∈ ws, v ∈ vs) -> ∃ es, DefsAt [] H es ws /\ (∀ e ∈ es, e ∈ ds)
  | [], _ => ⟨[], rfl, fun e he => by cases he⟩
  | v :: ws, hw => by
    obtain ⟨es, h1, h2⟩ := DefsAt.sub h (ws := ws) fun v hv => hw v (List.mem_cons_of_mem _ hv)
    obtain ⟨i, hi⟩ := List.mem_iff_getElem?.mp (hw v List.mem_cons_self)
    obtain ⟨d, ed, DA⟩ := h.get hi
    exact ⟨d :: es, ⟨v, ws, rfl, DA, h1⟩, fun e he => by
      rcases List.mem_cons.mp he with rfl | he
      · exact List.mem_of_getElem? ed
      · exact h2 e he⟩
theorem ZcL {xs : List V} {lo hi : Option Int} : ∀ v ∈ cutV xs lo hi, v ∈ xs := fun v hv => List.mem_of_mem_drop (List.mem_of_mem_take hv)
theorem ZcQ {xs : List V} {n : Nat} : (cutV xs none (some (n : Int))).length = min n xs.length := by
 unfold cutV
 rw [HT.sIx_nat, HT.sIx_none]
 simp
theorem ZdZ {xs : List V} {n : Nat} : (cutV xs (some (n : Int)) none).length = xs.length - n := by
 unfold cutV
 rw [HT.sIx_nat, HT.sIx_none]
 simp
 lia
noncomputable def PgB (m L : Nat) (ds : List PDef) : Prop := ∀ d ∈ ds, d.2.2.length <= L /\ (∀ r ∈ d.2.2, RowB m r) /\ Za3 d.1 /\ Za3 d.2.1
inductive Pr_bent_defs (x y : V) (H : Hp) (Q : VK) : Prop
 | mk (m L : Nat) (p : Addr) (vs : List V) (ds : List PDef) (b : Addr) (p0 p1 p2 p3 p4 nm : Int) (wd : Str) (_ : x = .ref p) (_ : H p = some (.lst vs)) (_ : DefsAt [] H ds vs) (_ : PgB m L ds) (_ : L <= 5000) (_ : ds.length <= 1000) (_ : y = .ref b) (_ : PickOk H b p0 p1 p2 p3 p4 nm wd) (_ : ∀ (q : Addr) (ws : List V) (es : List PDef) (H' : Hp), H' q = some (.lst ws) -> DefsAt [] H' es ws -> PgB m L es -> es.length <= max ds.length 400 -> Same H H' -> Q (.ref q) H') : Pr_bent_defs x y H Q
noncomputable def ZdI : Sp := sp2 (Pr_bent_defs)
theorem sc__law_bent_defs : FnScope ["program", "pick", "way", "f"] ["program", "pick"] (Zag ZaS) := ⟨rfl, rfl, rfl, by decide +kernel, rfl, by decide +kernel, by decide +kernel⟩
theorem ZdS (B : Blt mg) (T__law_bent_defs : TopFn K mg "_law_bent_defs" ZaS ["program", "pick"]) : Callee P w K mg base "_law_bent_defs" 1 ["program", "pick"] ZdI := by
 refine T__law_bent_defs.ok2 sc__law_bent_defs fun f cdv A outer s H v1 v2 Q E hr h => ?_
 have nd := sc__law_bent_defs.nd
 obtain ⟨m, L, p, vs, ds, b, p0, p1, p2, p3, p4, nm, wd, rfl, hp, D0, PB, hL, hl, rfl, pk, k⟩ := h
 have hlv := D0.length
 have fin : ∀ (q : Addr) (ws : List V) (H' : Hp), H' q = some (.lst ws) -> (∀ v ∈ ws, v ∈ vs) -> ws.length <= max ds.length 400 -> Same H H' -> Q (.ref q) H' := fun q ws H' e hs hn s' => by
  obtain ⟨es, h1, h2⟩ := DefsAt.sub (D0.mono s') hs
  exact k q ws es H' e h1 (fun d hd => PB d (h2 d hd)) (by rw [h1.length]; exact hn) s'
 refine' ZaI [some (.ref p), some (.ref b), none, none] rfl ?hb ?hg
 case' hb => refine' Zae ?bab ?bac
 case bab => exact (Zbr (i := 2) nd rfl (Or.inl rfl) (Zas Zb2 (Zao (k_ix (K := K) rfl) (pv 1) Zab (fun _ _ => rfl)) Zab))
 case' bac => refine' Zae ?bad ?bae
 case' bad => refine' Zbr (i := 3) ?baf ?bag ?bah ?bai
 case baf => exact nd
 case bag => exact rfl
 case bah => exact (Or.inl rfl)
 case' bai => refine' Zas ?baj ?bak ?bal
 case baj => exact Zb2
 case bak => exact (Zao (k_ix (K := K) rfl) (pv 1) Zab (fun _ _ => rfl))
 case' bal => refine' Zai ?bam ?ban ?bao ?bap ?baq
 case bam => exact (ZfK rfl)
 case ban => exact (by rfl)
 case bao => exact B.b_max
 case bap => exact Zls
 case baq => exact (Zah Zab (ZaB (Zai (Zbt (K := K) rfl) (by rfl) B.b_len ZaW (Zaa (pv 0) Zad)) Zad))
 case' bae => refine' Zae ?bar ?bas
 case' bar => refine' ZaF ?bat ?bau ?bav
 case bat => exact (Zal Za1 (pv 2) Zab (Zar _))
 case' bau => refine' Zaf ?baw
 case' baw => refine' Zan ?bax
 case' bax => refine' Zas ?bay ?baz ?bba
 case bay => exact ZcB
 case baz => exact (ZaC (k_sl (K := K) rfl) (pv 0) ZaM (ZaJ (pv 3)))
 case bba => exact (ZaC (k_sl (K := K) rfl) (pv 0) (ZaJ (Zas Za8 (pv 3) Zab)) ZaM)
 case bav => exact Zam
 case' bas => refine' Zae ?bbb ?bbc
 case' bbb => refine' ZaF ?bbd ?bbe ?bbf
 case bbd => exact (Zal Za1 (pv 2) Zab (Zar _))
 case' bbe => refine' Zaf ?bbg
 case bbg => exact (Zan (Zas ZcB (ZaC (k_sl (K := K) rfl) (pv 0) (ZaJ (pv 3)) ZaM) (ZaC (k_sl (K := K) rfl) (pv 0) ZaM (ZaJ (pv 3)))))
 case bbf => exact Zam
 case' bbc => refine' Zae ?bbh ?bbi
 case' bbh => refine' ZaF ?bbj ?bbk ?bbl
 case' bbj => refine' PW.pt ?bbm
 case' bbm => refine' Zb0 ?bbn ?bbo
 case bbn => exact (Zal Za1 (pv 2) Zab (Zar _))
 case bbo => exact (ZbV (Zal Za1 (Zao (k_ix (K := K) rfl) (pv 1) Zab (fun _ _ => rfl)) Zab (Zar _)))
 case' bbk => refine' Zaf ?bbp
 case' bbp => refine' Zan ?bbq
 case' bbq => refine' ZbY (LN := ["takes", "boxes", "rows"]) (FN := []) (fr := []) ?bbr ?bbs ?bbt ?bbu ?bbv ?bbw
 case bbr => exact rfl
 case bbs => exact (ZcZ (by rfl))
 case bbt => exact (Zbh (K := K) rfl (ZaC (k_sl (K := K) rfl) (Zas ZiL (pv 0) Zab) ZaM (ZaJ Zab)))
 case' bbu => intro cl C fp pins s H
 case' bbu => refine' ZcO (K := K) (n := 3) ?bbx ?bby ?bbz
 case bbx => exact rfl
 case bby => exact rfl
 case' bbz => refine' Zbf ?bca ?bcb
 case bca => exact (ZaG (i := 0) (show ((["takes", "boxes", "rows"] : List Str) ++ ([] : List Str)).Nodup by decide +kernel) rfl (Or.inl rfl))
 case' bcb => refine' Zbf ?bcc ?bcd
 case bcc => exact (ZaG (i := 1) (show ((["takes", "boxes", "rows"] : List Str) ++ ([] : List Str)).Nodup by decide +kernel) rfl (Or.inl rfl))
 case bcd => exact (Zbf (ZaG (i := 2) (show ((["takes", "boxes", "rows"] : List Str) ++ ([] : List Str)).Nodup by decide +kernel) rfl (Or.inl rfl)) Zds)
 case' bbv => intro cl C fp pins s H
 case bbv => exact ZbH
 case' bbw => intro cl C fp pins s H
 case bbw => exact (Za0 (Zaa (pv 0) (Zaa (pv 1) (Zau (ZaC (k_sl (K := K) rfl) (pv 2) (ZaJ (ZeZ Zc5 Zab)) ZaM) Zad))))
 case bbl => exact Zam
 case' bbi => refine' Zae ?bce ?bcf
 case' bce => refine' ZaF ?bcg ?bch ?bci
 case bcg => exact (Zal Za1 (pv 2) Zab (Zar _))
 case' bch => refine' Zaf ?bcj
 case' bcj => refine' Zan ?bck
 case' bck => refine' ZbY (LN := ["takes", "boxes", "rows"]) (FN := []) (fr := []) ?bcl ?bcm ?bcn ?bco ?bcp ?bcq
 case bcl => exact rfl
 case bcm => exact (ZcZ (by rfl))
 case' bcn => refine' Zbh (K := K) ?bcr ?bcs
 case bcr => exact rfl
 case' bcs => refine' ZaC ?bct ?bcu ?bcv ?bcw
 case bct => exact (k_sl (K := K) rfl)
 case bcu => exact (Zas ZiL (pv 0) Zab)
 case bcv => exact ZaM
 case bcw => exact (ZaJ (Zas Za8 Zab (Zao (k_ix (K := K) rfl) (pv 1) Zab (fun _ _ => rfl))))
 case' bco => intro cl C fp pins s H
 case' bco => refine' ZcO (K := K) (n := 3) ?bcx ?bcy ?bcz
 case bcx => exact rfl
 case bcy => exact rfl
 case' bcz => refine' Zbf ?bda ?bdb
 case bda => exact (ZaG (i := 0) (show ((["takes", "boxes", "rows"] : List Str) ++ ([] : List Str)).Nodup by decide +kernel) rfl (Or.inl rfl))
 case' bdb => refine' Zbf ?bdc ?bdd
 case bdc => exact (ZaG (i := 1) (show ((["takes", "boxes", "rows"] : List Str) ++ ([] : List Str)).Nodup by decide +kernel) rfl (Or.inl rfl))
 case bdd => exact (Zbf (ZaG (i := 2) (show ((["takes", "boxes", "rows"] : List Str) ++ ([] : List Str)).Nodup by decide +kernel) rfl (Or.inl rfl)) Zds)
 case' bcp => intro cl C fp pins s H
 case bcp => exact ZbH
 case' bcq => intro cl C fp pins s H
 case bcq => exact (Za0 (Zaa (pv 0) (Zaa (pv 1) (ZaB (ZbR (Zmz (K := K) rfl) (by rfl) B.b_list ZcY (Zaa (pv 2) Zad)) Zad))))
 case bci => exact Zam
 case bcf => exact (Zaf (Zan (Za9 Zad)))
 walk_at "rd"
 refine Zaj pk.at_ rfl ?_
 walk_at "rd"
 refine rd_I (by lia) ?_
 walk_at "rd"
 refine Zaj pk.at_ rfl ?_
 walk_at "rd"
 refine ZaO (SqL.of hp) ?_
 walk_at "rd"
 refine rd_I (by split <;> lia) ?_
 obtain ⟨n, hn⟩ : ∃ n : Nat, (p1 % if (vs.length : Int) > 1 then (vs.length : Int) else 1) = n := ⟨_, (Int.toNat_of_nonneg (Int.emod_nonneg _ (by split <;> lia))).symm⟩
 rw [hn]
 have two : ∀ (c1 c2 : List V), (∀ v ∈ c1, v ∈ vs) -> (∀ v ∈ c2, v ∈ vs) -> c1.length + c2.length <= vs.length -> ∀ (H2 : Hp) (q1 q2 : Addr), Same H H2 -> H2 q1 = some (.lst c1) -> H2 q2 = some (.lst c2) -> rCat (.ref q1) (.ref q2) H2 Q := fun c1 c2 m1 m2 hc H2 q1 q2 s2 e1 e2 => by
  refine ZcH e1 e2 (Zax (by lia)) fun q3 hq3 => ?_
  refine fin q3 _ _ Zac (fun v hv => ?_) (by rw [List.length_append]; lia) (s2.trans (Same.new hq3))
  rcases List.mem_append.mp hv with hv | hv
  ·exact m1 v hv
  ·exact m2 v hv
 walk_at "rd"
 refine Zav (fun e0 => ?_) (fun n0 => ?_)
 ·walk_at "rd"
  refine ⟨p, vs, rfl, SqL.of hp, fun q1 hq1 => ?_⟩
  have s1 := Same.new (o := .lst (cutV vs none (some (n : Int)))) hq1
  have e1 : upd H q1 (.lst (cutV vs none (some (n : Int)))) q1 = some (.lst (cutV vs none (some (n : Int)))) := Zac
  generalize upd H q1 (.lst (cutV vs none (some (n : Int)))) = H1 at s1 e1
  walk_at "rd"
  rw [show (n : Int) + 1 = ((n + 1 : Nat) : Int) by lia]
  refine ⟨p, vs, rfl, SqL.of (s1 _ _ hp), fun q2 hq2 => ?_⟩
  have s2 := Same.new (o := .lst (cutV vs (some ((n + 1 : Nat) : Int)) none)) hq2
  exact two _ _ ZcL ZcL (by rw [ZcQ, ZdZ]; lia) _ q1 q2 (s1.trans s2) (s2 _ _ e1) Zac
 ·walk_at "rd"
  refine Zav (fun e1 => ?_) (fun n1 => ?_)
  ·walk_at "rd"
   refine ⟨p, vs, rfl, SqL.of hp, fun q1 hq1 => ?_⟩
   have s1 := Same.new (o := .lst (cutV vs (some (n : Int)) none)) hq1
   have e1 : upd H q1 (.lst (cutV vs (some (n : Int)) none)) q1 = some (.lst (cutV vs (some (n : Int)) none)) := Zac
   generalize upd H q1 (.lst (cutV vs (some (n : Int)) none)) = H1 at s1 e1
   walk_at "rd"
   refine ⟨p, vs, rfl, SqL.of (s1 _ _ hp), fun q2 hq2 => ?_⟩
   have s2 := Same.new (o := .lst (cutV vs none (some (n : Int)))) hq2
   exact two _ _ ZcL ZcL (by rw [ZcQ, ZdZ]; lia) _ q1 q2 (s1.trans s2) (s2 _ _ e1) Zac
  ·walk_at "rd"
   refine Zav (fun e2 => ?_) (fun n2 => ?_)
   ·walk_at "rd"
    refine Zaj pk.at_ rfl ?_
    walk_at "rd"
    refine Zav (fun e4 => ?_) (fun n4 => ?_)
    ·walk_at "rd"
     refine ⟨p, 400, vs, rfl, rfl, hp, by lia, by lia, Zax (by show vs.length * 400 <= 1000000; lia), fun qa hqa => ?_⟩
     have sa := Same.new (o := .lst (List.replicate (Int.toNat 400) vs).flatten) hqa
     have ea : upd H qa (.lst (List.replicate (Int.toNat 400) vs).flatten) qa = some (.lst (List.replicate (Int.toNat 400) vs).flatten) := Zac
     have ma : ∀ v ∈ (List.replicate (Int.toNat 400) vs).flatten, v ∈ vs := fun v hv => by
      obtain ⟨l, hl, hv⟩ := List.mem_flatten.mp hv
      rw [(List.mem_replicate.mp hl).2] at hv
      exact hv
     generalize (List.replicate (Int.toNat 400) vs).flatten = fl at sa ea ma ⊢
     generalize upd H qa (.lst fl) = Ha at sa ea
     walk_at "rd"
     refine ⟨qa, fl, rfl, SqL.of ea, fun qb hqb => ?_⟩
     have hbl : (cutV fl none (some 400)).length <= 400 := by have h : (cutV fl none (some 400)).length = min 400 fl.length := ZcQ (n := 400); lia
     have sb := Same.new (o := .lst (cutV fl none (some 400))) hqb
     have eb : upd Ha qb (.lst (cutV fl none (some 400))) qb = some (.lst (cutV fl none (some 400))) := Zac
     have mb : ∀ v ∈ cutV fl none (some 400), v ∈ vs := fun v hv => ma v (ZcL v hv)
     generalize cutV fl none (some 400) = ws at sb eb mb hbl ⊢
     generalize upd Ha qb (.lst ws) = Hb at sb eb
     have sab := sa.trans sb
     obtain ⟨es, De, he⟩ := DefsAt.sub (D0.mono sab) mb
     have hel := De.length
     refine Zct (SqL.of eb) ?_
     refine ZcK (xs := ws) (Zax (by lia)) (fun i zs σ Hy => An3 (∃ x1 x2 x3, σ = [x1, x2, x3]) (Same Hb Hy) (∃ es', An3 (DefsAt [] Hy es' zs) (PgB m L es') (es'.length <= i))) ⟨⟨none, none, none, rfl⟩, Same.refl _, ([] : List PDef), rfl, fun d hd => (List.not_mem_nil hd).elim, Nat.le_refl _⟩ (fun i zs σ Hy _ z_ => by obtain ⟨_, s1, _⟩ := z_; exact SqL.of (s1 _ _ eb)) ?_ ?_
     ·rintro i x zs σ Hy hx hle hlt ⟨⟨x1, x2, x3, rfl⟩, s1, es', Dz, Pz, lz⟩
      obtain ⟨d, ed, t, q, ys, rfl, hat, hq, _, ry⟩ := De.get hx
      have hyl := ry.length
      rw [List.length_map] at hyl
      have hd := PB d (he d (List.mem_of_getElem? ed))
      refine Zdo (s1 _ _ hat) rfl ?_
      walk_at "rd"
      refine ⟨q, ys, rfl, SqL.of (s1 _ _ hq), fun p2 hp2 => ?_⟩
      obtain ⟨a, c, ec⟩ := Zgq (xs := ys) (lo := some (-1)) (hi := none)
      obtain ⟨ys2, rs2, ey2, r2, m2, l2⟩ : ∃ ys2 rs2, ys2 = cutV ys (some (-1)) none /\ Reps Hb (rs2.map rowD) ys2 /\ (∀ r ∈ rs2, r ∈ d.2.2) /\ rs2.length <= d.2.2.length := ⟨_, (d.2.2.drop a).take c, rfl, by rw [ec, List.map_take, List.map_drop]; exact (ry.drop a).take c, fun r hr => List.mem_of_mem_drop (List.mem_of_mem_take hr), by rw [List.length_take, List.length_drop]; lia⟩
      rw [<- ey2]
      have hd1 := hd.1
      have s2 := Same.new (o := .lst ys2) hp2
      have e2 : upd Hy p2 (.lst ys2) p2 = some (.lst ys2) := Zac
      generalize upd Hy p2 (.lst ys2) = H2 at s2 e2
      walk_at "rd"
      refine ⟨show 3 <= PySem.sizeLine by rw [PySem.sizeLine_eq]; decide, fun p3 hp3 => ?_⟩
      have s3 := Same.new (o := .tup [V.int d.1, V.int d.2.1, V.ref p2]) hp3
      have e3 : upd H2 p3 (.tup [V.int d.1, V.int d.2.1, V.ref p2]) p3 = some (.tup [V.int d.1, V.int d.2.1, V.ref p2]) := Zac
      generalize upd H2 p3 (.tup [V.int d.1, V.int d.2.1, V.ref p2]) = H3 at s3 e3
      have s13 := (s1.trans s2).trans s3
      refine ⟨hlt, by simpa using hle, ⟨_, _, _, rfl⟩, s13, es' ++ [(d.1, d.2.1, rs2)], (Dz.mono (s2.trans s3)).append ⟨.ref p3, [], rfl, ⟨p3, p2, ys2, rfl, e3, s3 _ _ e2, by simp, r2.mono s13.ts⟩, rfl⟩, fun d' hd' => ?_, by simp; lia⟩
      rcases List.mem_append.mp hd' with hd' | hd'
      ·exact Pz d' hd'
      ·have : d' = (d.1, d.2.1, rs2) := by simpa using hd'
       subst this
       exact ⟨by dsimp only; lia, fun r hr => hd.2.1 r (m2 r hr), hd.2.2⟩
     ·rintro zs σ Hy hzl ⟨⟨x1, x2, x3, rfl⟩, s1, es', Dz, Pz, lz⟩ pa hpa
      have s4 := Same.new (o := .lst zs) hpa
      exact k pa zs es' _ Zac (Dz.mono s4) Pz (by lia) ((sab.trans s1).trans s4)
    ·walk_at "rd"
     refine ZeH e2 ?_
     walk_at "rd"
     refine ⟨p, 7, vs, rfl, rfl, hp, by lia, by lia, Zax (by show vs.length * 7 <= 1000000; lia), fun qa hqa => ?_⟩
     have sa := Same.new (o := .lst (List.replicate (Int.toNat 7) vs).flatten) hqa
     have ea : upd H qa (.lst (List.replicate (Int.toNat 7) vs).flatten) qa = some (.lst (List.replicate (Int.toNat 7) vs).flatten) := Zac
     have ma : ∀ v ∈ (List.replicate (Int.toNat 7) vs).flatten, v ∈ vs := fun v hv => by
      obtain ⟨l, hl, hv⟩ := List.mem_flatten.mp hv
      rw [(List.mem_replicate.mp hl).2] at hv
      exact hv
     generalize (List.replicate (Int.toNat 7) vs).flatten = fl at sa ea ma ⊢
     generalize upd H qa (.lst fl) = Ha at sa ea
     walk_at "rd"
     refine Zaj (pk.mono sa).at_ rfl ?_
     walk_at "rd"
     refine ⟨qa, fl, rfl, SqL.of ea, fun qb hqb => ?_⟩
     have hbl : (cutV fl none (some (6 + p4))).length <= 400 := by obtain ⟨n6, h6⟩ := Int.eq_ofNat_of_zero_le (show 0 <= 6 + p4 by have := pk.b4; lia); rw [h6]; have := ZcQ (xs := fl) (n := n6); have := pk.b4; lia
     have sb := Same.new (o := .lst (cutV fl none (some (6 + p4)))) hqb
     have eb : upd Ha qb (.lst (cutV fl none (some (6 + p4)))) qb = some (.lst (cutV fl none (some (6 + p4)))) := Zac
     have mb : ∀ v ∈ cutV fl none (some (6 + p4)), v ∈ vs := fun v hv => ma v (ZcL v hv)
     generalize cutV fl none (some (6 + p4)) = ws at sb eb mb hbl ⊢
     generalize upd Ha qb (.lst ws) = Hb at sb eb
     have sab := sa.trans sb
     obtain ⟨es, De, he⟩ := DefsAt.sub (D0.mono sab) mb
     have hel := De.length
     refine Zct (SqL.of eb) ?_
     refine ZcK (xs := ws) (Zax (by lia)) (fun i zs σ Hy => An3 (∃ x1 x2 x3, σ = [x1, x2, x3]) (Same Hb Hy) (∃ es', An3 (DefsAt [] Hy es' zs) (PgB m L es') (es'.length <= i))) ⟨⟨none, none, none, rfl⟩, Same.refl _, ([] : List PDef), rfl, fun d hd => (List.not_mem_nil hd).elim, Nat.le_refl _⟩ (fun i zs σ Hy _ z_ => by obtain ⟨_, s1, _⟩ := z_; exact SqL.of (s1 _ _ eb)) ?_ ?_
     ·rintro i x zs σ Hy hx hle hlt ⟨⟨x1, x2, x3, rfl⟩, s1, es', Dz, Pz, lz⟩
      obtain ⟨d, ed, t, q, ys, rfl, hat, hq, _, ry⟩ := De.get hx
      have hyl := ry.length
      rw [List.length_map] at hyl
      have hd := PB d (he d (List.mem_of_getElem? ed))
      refine Zdo (s1 _ _ hat) rfl ?_
      walk_at "rd"
      refine Zj7 (.inl (SqL.of (s1 _ _ hq))) fun p2 hp2 => ?_
      obtain ⟨ys2, rs2, ey2, r2, m2, l2⟩ : ∃ ys2 rs2, ys2 = ys /\ Reps Hb (rs2.map rowD) ys2 /\ (∀ r ∈ rs2, r ∈ d.2.2) /\ rs2.length <= d.2.2.length := ⟨_, d.2.2, rfl, ry, fun r hr => hr, Nat.le_refl _⟩
      rw [<- ey2]
      have hd1 := hd.1
      have s2 := Same.new (o := .lst ys2) hp2
      have e2 : upd Hy p2 (.lst ys2) p2 = some (.lst ys2) := Zac
      generalize upd Hy p2 (.lst ys2) = H2 at s2 e2
      walk_at "rd"
      refine ⟨show 3 <= PySem.sizeLine by rw [PySem.sizeLine_eq]; decide, fun p3 hp3 => ?_⟩
      have s3 := Same.new (o := .tup [V.int d.1, V.int d.2.1, V.ref p2]) hp3
      have e3 : upd H2 p3 (.tup [V.int d.1, V.int d.2.1, V.ref p2]) p3 = some (.tup [V.int d.1, V.int d.2.1, V.ref p2]) := Zac
      generalize upd H2 p3 (.tup [V.int d.1, V.int d.2.1, V.ref p2]) = H3 at s3 e3
      have s13 := (s1.trans s2).trans s3
      refine ⟨hlt, by simpa using hle, ⟨_, _, _, rfl⟩, s13, es' ++ [(d.1, d.2.1, rs2)], (Dz.mono (s2.trans s3)).append ⟨.ref p3, [], rfl, ⟨p3, p2, ys2, rfl, e3, s3 _ _ e2, by simp, r2.mono s13.ts⟩, rfl⟩, fun d' hd' => ?_, by simp; lia⟩
      rcases List.mem_append.mp hd' with hd' | hd'
      ·exact Pz d' hd'
      ·have : d' = (d.1, d.2.1, rs2) := by simpa using hd'
       subst this
       exact ⟨by dsimp only; lia, fun r hr => hd.2.1 r (m2 r hr), hd.2.2⟩
     ·rintro zs σ Hy hzl ⟨⟨x1, x2, x3, rfl⟩, s1, es', Dz, Pz, lz⟩ pa hpa
      have s4 := Same.new (o := .lst zs) hpa
      exact k pa zs es' _ Zac (Dz.mono s4) Pz (by lia) ((sab.trans s1).trans s4)
   ·walk_at "rd"
    refine ZcS n2 ?_
    walk_at "rd"
    walk_at "mk"; intro q1 hq1
    exact k q1 [] [] _ Zac rfl (fun d hd => by cases hd) (by simp) (Same.new hq1)
theorem Zje : ∀ {ds : List D}, (∀ d ∈ ds, ∃ n, d = .int n) -> ∃ ns : List Int, ds = ns.map D.int
  | [], _ => ⟨[], rfl⟩
  | d :: ds, h => by
    obtain ⟨n, rfl⟩ := h d List.mem_cons_self
    obtain ⟨ns, rfl⟩ := Zje fun d hd => h d (List.mem_cons_of_mem _ hd)
    exact ⟨n :: ns, rfl⟩
theorem Zmk {d : D} (h : Zb6 1 d) : d.pl = true /\ d.dep <= 1 := by
  cases d with
  | non => simp [Zb6] at h
  | bl _ => simp [Zb6] at h
  | str _ => simp [Zb6] at h
  | int n => simp [D.pl, D.dep]
  | tup ds =>
    obtain ⟨_, hd⟩ := h
    obtain ⟨ns, rfl⟩ := Zje hd
    simp only [D.pl, D.dep]
    exact ⟨ZeY _, by rw [Zeo]; lia⟩
theorem ZgX : ∀ {ds : List D}, (∀ d ∈ ds, Zb6 1 d) -> D.pls ds = true /\ D.deps ds <= 1
  | [], _ => ⟨rfl, by simp [D.deps]⟩
  | d :: ds, h => by
    obtain ⟨a, b⟩ := Zmk (h d List.mem_cons_self)
    obtain ⟨a', b'⟩ := ZgX fun d hd => h d (List.mem_cons_of_mem _ hd)
    simp only [D.pls, D.deps]
    exact ⟨by rw [a, a']; rfl, by lia⟩
theorem Zim : ∀ {rs : List (Str × List D)}, (∀ r ∈ rs, ∀ p ∈ r.2, Zb6 1 p) -> D.pls (rs.map rowD) = true /\ D.deps (rs.map rowD) <= 2
  | [], _ => ⟨rfl, by simp [D.deps]⟩
  | r :: rs, h => by
    obtain ⟨a, b⟩ := ZgX (h r List.mem_cons_self)
    obtain ⟨a', b'⟩ := Zim fun d hd => h d (List.mem_cons_of_mem _ hd)
    simp only [List.map_cons, rowD, D.pls, D.deps, D.pl, D.dep]
    exact ⟨by rw [a, a']; rfl, by lia⟩
theorem DefsAt.by1 {H H' : Hp} {d : PDef} {v : V} (h : DefAt [] H d v) (s : Same H H') : DefAt [] H' d v := h.by (fun a xs _ e => s _ _ e) s.ts
noncomputable def OneOk (m L : Nat) (H : Hp) (v : V) : Prop := ∃ d, DefAt [] H d v /\ d.2.2.length <= L + 400 /\ (∀ r ∈ d.2.2, RowB (2 * m + 11) r) /\ Za3 d.1 /\ Za3 d.2.1
theorem OneOk.mono {m L : Nat} {H H' : Hp} {v : V} (h : OneOk m L H v) (s : Same H H') : OneOk m L H' v := by
 obtain ⟨d, h1, h2⟩ := h
 exact ⟨d, DefsAt.by1 h1 s, h2⟩
theorem RowB.mono {m n : Nat} {r : Str × List D} (h : RowB m r) (l : m <= n) : RowB n r := ⟨Nat.le_trans h.w l, Nat.le_trans h.n l, fun d hd => (h.p d hd).mono l⟩
theorem Zk6 {m : Nat} {r : Str × List D} (h : RowB m r) (l : m <= 1000) : ∀ d ∈ r.2, Zb6 1 d := fun d hd => by
 rcases h.p d hd with ⟨n, rfl, _⟩ | ⟨ns, rfl, hn, _⟩
 ·simp [Zb6]
 ·exact ⟨by rw [List.length_map]; lia, fun e he => by obtain ⟨n, _, rfl⟩ := List.mem_map.mp he; exact ⟨n, rfl⟩⟩
inductive Pr_bent (x y : V) (H : Hp) (Q : VK) : Prop
 | mk (m L : Nat) (p : Addr) (vs : List V) (ds : List PDef) (b : Addr) (p0 p1 p2 p3 p4 nm : Int) (wd : Str) (_ : x = .ref p) (_ : H p = some (.lst vs)) (_ : DefsAt [] H ds vs) (_ : PgB m L ds) (_ : 5 <= m) (_ : m <= 300) (_ : L <= 900) (_ : ds.length <= 1000) (_ : y = .ref b) (_ : PickOk H b p0 p1 p2 p3 p4 nm wd) (_ : ∀ (q : Addr) (ws : List V) (es : List PDef) (H' : Hp), H' q = some (.lst ws) -> DefsAt [] H' es ws -> PgB (2 * m + 11) (L + 400) es -> es.length <= max ds.length 400 -> Same H H' -> Q (.ref q) H') : Pr_bent x y H Q
noncomputable def ZlD : Sp := sp2 (Pr_bent)
theorem sc__law_bent : FnScope ["program", "pick", "f", "takes", "boxes", "rows", "one", "at"] ["program", "pick"] (Zag ZbD) := ⟨rfl, rfl, rfl, by decide +kernel, rfl, by decide +kernel, by decide +kernel⟩
theorem ZgA (B : Blt mg) (T__law_bent : TopFn K mg "_law_bent" ZbD ["program", "pick"]) (Zcb : Callee P w K mg base "_law_bent_defs" 1 ["program", "pick"] ZdI) (Zca : Callee P w K mg base "_law_bent_rows" 1 ["rows", "pick"] ZdH) (Zcn : Callee P w K mg base "_law_bent_row" 3 ["program", "one", "row", "pick"] Zd7) : Callee P w K mg base "_law_bent" 4 ["program", "pick"] ZlD := by
 refine T__law_bent.ok2 sc__law_bent fun f cdv A outer s H v1 v2 Q E hr h => ?_
 have nd := sc__law_bent.nd
 have hu := hr.units
 obtain ⟨m, L, p, vs, ds, b, p0, p1, p2, p3, p4, nm, wd, rfl, hp, D0, PB, hm5, hm, hL, hl, rfl, pk, k⟩ := h
 have hlv := D0.length
 have up : ∀ {es : List PDef}, PgB m L es -> PgB (2 * m + 11) (L + 400) es := fun h d hd => ⟨by have := (h d hd).1; lia, fun r hr => ((h d hd).2.1 r hr).mono (by lia), (h d hd).2.2⟩
 refine' ZaI [some (.ref p), some (.ref b), none, none, none, none, none, none] rfl ?hb ?hg
 case' hb => refine' Zae ?bab ?bac
 case' bab => refine' ZaF ?bad ?bae ?baf
 case' bad => refine' PW.pt ?bag
 case' bag => refine' Zf8 ?bah ?bai
 case bah => exact (Zal (k_eqE (K := K) rfl hu) (pv 0) (Za9 Zad) (Zar _))
 case bai => exact (Zfp (Zal Zku (Zao (k_ix (K := K) rfl) (pv 1) Zab (fun _ _ => rfl)) Zab (Zar _)))
 case bae => exact (Zaf (Zan (pv 0)))
 case baf => exact Zam
 case' bac => refine' Zae ?baj ?bak
 case' baj => refine' ZaF ?bal ?bam ?ban
 case bal => exact (Zal Zku (Zao (k_ix (K := K) rfl) (pv 1) Zab (fun _ _ => rfl)) Zab (Zar _))
 case bam => exact (Zaf (Zan (ZaK Zcb (hr.mono (by first | decide | lia)) (by rfl) (Zaa (pv 0) (Zaa (pv 1) Zad)))))
 case ban => exact Zam
 case' bak => refine' Zae ?bao ?bap
 case' bao => refine' Zbr (i := 2) ?baq ?bar ?bas ?bat
 case baq => exact nd
 case bar => exact rfl
 case bas => exact (Or.inl rfl)
 case' bat => refine' Zas ?bau ?bav ?baw
 case bau => exact Zb2
 case bav => exact (Zao (k_ix (K := K) rfl) (pv 1) Zab (fun _ _ => rfl))
 case baw => exact (Zai (Zbt (K := K) rfl) (by rfl) B.b_len ZaW (Zaa (pv 0) Zad))
 case' bap => refine' Zae ?bax ?bay
 case' bax => refine' ZeC ?baz ?bba
 case baz => exact (Zao (k_ix (K := K) rfl) (pv 0) (pv 2) (fun _ _ => rfl))
 case' bba => refine' ZcO (K := K) (n := 3) ?bbb ?bbc ?bbd
 case bbb => exact rfl
 case bbc => exact rfl
 case' bbd => refine' Zbf ?bbe ?bbf
 case bbe => exact (ZaG (i := 3) nd rfl (Or.inl rfl))
 case bbf => exact (Zbf (ZaG (i := 4) nd rfl (Or.inl rfl)) (Zbf (ZaG (i := 5) nd rfl (Or.inl rfl)) Zds))
 case' bay => refine' Zae ?bbg ?bbh
 case' bbg => refine' Zea (i := 6) ?bbi ?bbj ?bbk ?bbl
 case bbi => exact nd
 case bbj => exact rfl
 case bbk => exact (Or.inl rfl)
 case' bbl => refine' Za0 ?bbm
 case' bbm => refine' Zaa ?bbn ?bbo
 case bbn => exact (pv 3)
 case bbo => exact (Zaa (pv 4) (ZaB (ZaK Zca (hr.mono (by first | decide | lia)) (by rfl) (Zaa (pv 5) (Zaa (pv 1) Zad))) Zad))
 case' bbh => refine' Zae ?bbp ?bbq
 case' bbp => refine' ZaF ?bbr ?bbs ?bbt
 case bbr => exact (Zal Za1 (Zao (k_ix (K := K) rfl) (pv 1) Zab (fun _ _ => rfl)) Zab (Zar _))
 case' bbs => refine' Zaf ?bbu
 case' bbu => refine' Zea (i := 6) ?bbv ?bbw ?bbx ?bby
 case bbv => exact nd
 case bbw => exact rfl
 case bbx => exact (Or.inl rfl)
 case bby => exact (Za0 (Zau (Zao (k_ix (K := K) rfl) (pv 1) Zab (fun _ _ => rfl)) (Zaa (pv 4) (Zaa (pv 5) Zad))))
 case bbt => exact Zam
 case' bbq => refine' Zae ?bbz ?bca
 case' bbz => refine' ZaF ?bcb ?bcc ?bcd
 case bcb => exact (Zal Za1 (Zao (k_ix (K := K) rfl) (pv 1) Zab (fun _ _ => rfl)) Zab (Zar _))
 case' bcc => refine' Zaf ?bce
 case' bce => refine' Zea (i := 6) ?bcf ?bcg ?bch ?bci
 case bcf => exact nd
 case bcg => exact rfl
 case bch => exact (Or.inl rfl)
 case bci => exact (Za0 (Zaa (pv 3) (Zau (Zao (k_ix (K := K) rfl) (pv 1) Zab (fun _ _ => rfl)) (Zaa (pv 5) Zad))))
 case bcd => exact Zam
 case' bca => refine' Zae ?bcj ?bck
 case' bcj => refine' ZaF ?bcl ?bcm ?bcn
 case' bcl => refine' PW.pt ?bco
 case' bco => refine' Zb0 ?bcp ?bcq
 case bcp => exact (Zal ZiO (Zao (k_ix (K := K) rfl) (pv 1) Zab (fun _ _ => rfl)) Zab (Zar _))
 case bcq => exact (ZbV (Zal (k_neL (K := K) rfl hu) (pv 5) (Za9 Zad) (Zar _)))
 case' bcm => refine' Zae ?bcr ?bcs
 case' bcr => refine' Zbr (i := 7) ?bct ?bcu ?bcv ?bcw
 case bct => exact nd
 case bcu => exact rfl
 case bcv => exact (Or.inl rfl)
 case' bcw => refine' Zas ?bcx ?bcy ?bcz
 case bcx => exact Zb2
 case bcy => exact (Zao (k_ix (K := K) rfl) (pv 1) Zab (fun _ _ => rfl))
 case bcz => exact (Zai (Zbt (K := K) rfl) (by rfl) B.b_len ZaW (Zaa (pv 5) Zad))
 case' bcs => refine' Zaf ?bda
 case' bda => refine' Zea (i := 6) ?bdb ?bdc ?bdd ?bde
 case bdb => exact nd
 case bdc => exact rfl
 case bdd => exact (Or.inl rfl)
 case' bde => refine' Za0 ?bdf
 case' bdf => refine' Zaa ?bdg ?bdh
 case bdg => exact (pv 3)
 case' bdh => refine' Zaa ?bdi ?bdj
 case bdi => exact (pv 4)
 case' bdj => refine' Zbs ?bdk ?bdl
 case' bdk => refine' Zas ?bdm ?bdn ?bdo
 case bdm => exact ZcB
 case' bdn => refine' Zas ?bdp ?bdq ?bdr
 case bdp => exact ZcB
 case bdq => exact (ZaC (k_sl (K := K) rfl) (pv 5) ZaM (ZaJ (pv 7)))
 case' bdr => refine' Za9 ?bds
 case' bds => refine' ZaB ?bdt ?bdu
 case' bdt => refine' ZaK ?bdv ?bdw ?bdx ?bdy
 case bdv => exact Zcn
 case bdw => exact (hr.mono (by first | decide | lia))
 case bdx => exact (by rfl)
 case' bdy => refine' Zaa ?bdz ?bea
 case bdz => exact (pv 0)
 case' bea => refine' Zau ?beb ?bec
 case beb => exact (Zao (k_ix (K := K) rfl) (pv 0) (pv 2) (fun _ _ => rfl))
 case bec => exact (Zau (Zao (k_ix (K := K) rfl) (pv 5) (pv 7) (fun _ _ => rfl)) (Zaa (pv 1) Zad))
 case bdu => exact Zad
 case bdo => exact (ZaC (k_sl (K := K) rfl) (pv 5) (ZaJ (Zas Za8 (pv 7) Zab)) ZaM)
 case bdl => exact Zad
 case bcn => exact Zam
 case' bck => refine' Zaf ?bed
 case' bed => refine' Zan ?bee
 case' bee => refine' Zas ?bef ?beg ?beh
 case bef => exact ZcB
 case beg => exact (Zas ZcB (ZaC (k_sl (K := K) rfl) (pv 0) ZaM (ZaJ (pv 2))) (Za9 (Zaa (pv 6) Zad)))
 case beh => exact (ZaC (k_sl (K := K) rfl) (pv 0) (ZaJ (Zas Za8 (pv 2) Zab)) ZaM)
 walk_at "rd"
 walk_at "mk"; intro q0 hq0
 have s0 := Same.new (o := .lst []) hq0
 have e0 : upd H q0 (.lst []) q0 = some (.lst []) := Zac
 generalize upd H q0 (.lst []) = H0 at s0 e0
 have D1 := D0.mono s0
 have hp1 := s0 _ _ hp
 have pk1 := pk.mono s0
 refine Zld (SqL.of hp1) e0 ?_
 walk_at "rd"
 refine Zav (fun hx => ?_) (fun hx => ?_)
 ·walk_at "rd"
  exact k p vs ds H0 hp1 D1 (up PB) (by lia) s0
 walk_at "rd"
 refine Zaj pk1.at_ rfl ?_
 walk_at "rd"
 refine Zav (fun h12 => ?_) (fun h12 => ?_)
 ·walk_at "rd"
  exact k p vs ds H0 hp1 D1 (up PB) (by lia) s0
 walk_at "rd"
 refine Zaj pk1.at_ rfl ?_
 walk_at "rd"
 refine Zav (fun h10 => ?_) (fun h10 => ?_)
 ·walk_at "rd"
  exact use2 ⟨m, L, p, vs, ds, b, p0, p1, p2, p3, p4, nm, wd, rfl, hp1, D1, PB, by lia, hl, rfl, pk1, fun q ws es H' e De Pe le s' => k q ws es H' e De (up Pe) le (s0.trans s')⟩
 have hpos : 0 < vs.length := List.length_pos_iff.mpr hx
 walk_at "rd"
 refine Zaj pk1.at_ rfl ?_
 walk_at "rd"
 refine ZaO (SqL.of hp1) ?_
 walk_at "rd"
 refine rd_I (by lia) ?_
 obtain ⟨n, hn⟩ : ∃ n : Nat, p1 % (vs.length : Int) = n := ⟨_, (Int.toNat_of_nonneg (Int.emod_nonneg _ (by lia))).symm⟩
 have hnl : n < vs.length := by
  have := Int.emod_lt_of_pos p1 (show (0 : Int) < vs.length by lia)
  lia
 rw [hn]
 walk_at "rd"
 obtain ⟨d, ed, DA⟩ := D1.get (List.getElem?_eq_getElem hnl)
 have hmem : d ∈ ds := List.mem_of_getElem? ed
 have hd := PB d hmem
 have DA0 := DA
 obtain ⟨t, q, ys, ev, hat, hq, _, ry⟩ := DA
 have hyl := ry.length
 rw [List.length_map] at hyl
 refine Zaj hp1 (ZaV rfl (List.getElem?_eq_getElem hnl)) ?_
 rw [ev]
 refine Zdo hat rfl ?_
 walk_at "rd"
 have hd1 := hd.1
 refine use2 ⟨m, q, ys, d.2.2, b, p0, p1, p2, p3, p4, nm, wd, rfl, hq, ry, hd.2.1, hm5, by lia, rfl, pk1, fun q' ys' rs' H1 e1 r1 b1 l1 s1 => ?_⟩
 walk_at "rd"
 refine ⟨show 3 <= PySem.sizeLine by rw [PySem.sizeLine_eq]; decide, fun o ho => ?_⟩
 have s2 := Same.new (o := .tup [V.int d.1, V.int d.2.1, V.ref q']) ho
 have e2 : upd H1 o (.tup [V.int d.1, V.int d.2.1, V.ref q']) o = some (.tup [V.int d.1, V.int d.2.1, V.ref q']) := Zac
 generalize upd H1 o (.tup [V.int d.1, V.int d.2.1, V.ref q']) = H2 at s2 e2
 refine ZcN ?_
 try dsimp +zetaDelta only
 refine ZcG (fun σ' H' => (∃ o x7, σ' = [some (.ref p), some (.ref b), some (.int (n : Int)), some (.int d.1), some (.int d.2.1), some (.ref q), some (.ref o), x7] /\ OneOk m L H' (.ref o)) /\ Same H0 H') ?_ fun N hN => ?_
 rotate_left
 ·walk_at "rd"
  refine Zaj (pk1.mono (s1.trans s2)).at_ rfl ?_
  walk_at "rd"
  refine Zav (fun e => ?_) (fun ne => ?_)
  ·walk_at "rd"
   refine Zaj (pk1.mono (s1.trans s2)).at_ rfl ?_
   walk_at "rd"
   refine ⟨show 3 <= PySem.sizeLine by rw [PySem.sizeLine_eq]; decide, fun o3 ho3 => ?_⟩
   have s3 := Same.new (o := .tup [V.int nm, V.int d.2.1, V.ref q]) ho3
   have e3 : upd H2 o3 (.tup [V.int nm, V.int d.2.1, V.ref q]) o3 = some (.tup [V.int nm, V.int d.2.1, V.ref q]) := Zac
   generalize upd H2 o3 (.tup [V.int nm, V.int d.2.1, V.ref q]) = H3 at s3 e3
   walk_at "rd"
   exact hN _ _ ⟨⟨o3, _, rfl, (nm, d.2.1, d.2.2), ⟨o3, q, ys, rfl, e3, s3 _ _ (s2 _ _ (s1 _ _ hq)), by simp, ry.mono ((s1.trans s2).trans s3).ts⟩, by dsimp only; lia, fun r hr => (hd.2.1 r hr).mono (by lia), pk.nmS, hd.2.2.2⟩, (s1.trans s2).trans s3⟩
  ·walk_at "rd"
   exact hN _ _ ⟨⟨o, _, rfl, (d.1, d.2.1, rs'), ⟨o, q', ys', rfl, e2, s2 _ _ e1, by simp, r1.mono s2.ts⟩, by dsimp only; lia, fun r hr => (b1 r hr).mono (by lia), hd.2.2⟩, s1.trans s2⟩
 rintro σ' HA ⟨⟨o1, x7, rfl, ok1⟩, sA⟩
 refine ZcG (fun σ' H' => (∃ o x7, σ' = [some (.ref p), some (.ref b), some (.int (n : Int)), some (.int d.1), some (.int d.2.1), some (.ref q), some (.ref o), x7] /\ OneOk m L H' (.ref o)) /\ Same H0 H') ?_ fun N hN => ?_
 rotate_left
 ·walk_at "rd"
  refine Zaj (pk1.mono sA).at_ rfl ?_
  walk_at "rd"
  refine Zav (fun e => ?_) (fun ne => ?_)
  ·walk_at "rd"
   refine Zaj (pk1.mono sA).at_ rfl ?_
   walk_at "rd"
   refine ⟨show 3 <= PySem.sizeLine by rw [PySem.sizeLine_eq]; decide, fun o3 ho3 => ?_⟩
   have s3 := Same.new (o := .tup [V.int d.1, V.int nm, V.ref q]) ho3
   have e3 : upd HA o3 (.tup [V.int d.1, V.int nm, V.ref q]) o3 = some (.tup [V.int d.1, V.int nm, V.ref q]) := Zac
   generalize upd HA o3 (.tup [V.int d.1, V.int nm, V.ref q]) = H3 at s3 e3
   walk_at "rd"
   exact hN _ _ ⟨⟨o3, _, rfl, (d.1, nm, d.2.2), ⟨o3, q, ys, rfl, e3, s3 _ _ (sA _ _ hq), by simp, ry.mono (sA.trans s3).ts⟩, by dsimp only; lia, fun r hr => (hd.2.1 r hr).mono (by lia), hd.2.2.1, pk.nmS⟩, sA.trans s3⟩
  ·walk_at "rd"
   exact hN _ _ ⟨⟨o1, _, rfl, ok1⟩, sA⟩
 clear ok1 sA
 rintro σ' HB ⟨⟨o2, x8, rfl, ok2⟩, sB⟩
 refine ZcG (fun σ' H' => (∃ o x7, σ' = [some (.ref p), some (.ref b), some (.int (n : Int)), some (.int d.1), some (.int d.2.1), some (.ref q), some (.ref o), x7] /\ OneOk m L H' (.ref o)) /\ Same H0 H') ?_ fun N hN => ?_
 ·rintro σ' HC ⟨⟨o3, x9, rfl, ok3⟩, sC⟩
  walk_at "rd"
  refine ⟨p, vs, rfl, SqL.of (sC _ _ hp1), fun qa hqa => ?_⟩
  have sa := Same.new (o := .lst (cutV vs none (some (n : Int)))) hqa
  have ea : upd HC qa (.lst (cutV vs none (some (n : Int)))) qa = some (.lst (cutV vs none (some (n : Int)))) := Zac
  generalize upd HC qa (.lst (cutV vs none (some (n : Int)))) = Ha at sa ea
  walk_at "rd"
  refine ⟨show 1 <= PySem.sizeLine by rw [PySem.sizeLine_eq]; decide, fun qb hqb => ?_⟩
  have sb := Same.new (o := .lst [V.ref o3]) hqb
  have eb : upd Ha qb (.lst [V.ref o3]) qb = some (.lst [V.ref o3]) := Zac
  generalize upd Ha qb (.lst [V.ref o3]) = Hb at sb eb
  have lT : (cutV vs none (some (n : Int))).length = min n vs.length := ZcQ
  refine ZcH (sb _ _ ea) eb (Zax (by simp; lia)) fun qc hqc => ?_
  have sc := Same.new (o := .lst (cutV vs none (some (n : Int)) ++ [V.ref o3])) hqc
  have ec : upd Hb qc (.lst (cutV vs none (some (n : Int)) ++ [V.ref o3])) qc = some (.lst (cutV vs none (some (n : Int)) ++ [V.ref o3])) := Zac
  generalize upd Hb qc (.lst (cutV vs none (some (n : Int)) ++ [V.ref o3])) = Hc at sc ec
  have sCc := ((sC.trans sa).trans sb).trans sc
  walk_at "rd"
  rw [show (n : Int) + 1 = ((n + 1 : Nat) : Int) by lia]
  refine ⟨p, vs, rfl, SqL.of (sCc _ _ hp1), fun qd hqd => ?_⟩
  have sd := Same.new (o := .lst (cutV vs (some ((n + 1 : Nat) : Int)) none)) hqd
  have ed' : upd Hc qd (.lst (cutV vs (some ((n + 1 : Nat) : Int)) none)) qd = some (.lst (cutV vs (some ((n + 1 : Nat) : Int)) none)) := Zac
  generalize upd Hc qd (.lst (cutV vs (some ((n + 1 : Nat) : Int)) none)) = Hd at sd ed'
  have lD : (cutV vs (some ((n + 1 : Nat) : Int)) none).length = vs.length - (n + 1) := ZdZ
  refine ZcH (sd _ _ ec) ed' (Zax (by rw [List.length_append, lT, lD, List.length_singleton]; lia)) fun qe hqe => ?_
  have se := Same.new (o := .lst (cutV vs none (some (n : Int)) ++ [V.ref o3] ++ cutV vs (some ((n + 1 : Nat) : Int)) none)) hqe
  have sE := (sCc.trans sd).trans se
  obtain ⟨es1, A1, B1⟩ := DefsAt.sub (D1.mono sE) (ws := cutV vs none (some (n : Int))) ZcL
  obtain ⟨es2, A2, B2⟩ := DefsAt.sub (D1.mono sE) (ws := cutV vs (some ((n + 1 : Nat) : Int)) none) ZcL
  obtain ⟨d3, C1, C2, C3⟩ := ok3.mono ((((sa.trans sb).trans sc).trans sd).trans se)
  have h1 := A1.length
  have h2 := A2.length
  refine k qe _ (es1 ++ [d3] ++ es2) _ Zac ((A1.append (show DefsAt [] _ [d3] [.ref o3] from ⟨.ref o3, [], rfl, C1, rfl⟩)).append A2) (fun d' hd' => ?_) (by rw [List.length_append, List.length_append, h1, h2, lT, lD, List.length_singleton]; lia) (s0.trans sE)
  rcases List.mem_append.mp hd' with hd' | hd'
  ·rcases List.mem_append.mp hd' with hd' | hd'
   ·exact up PB d' (B1 d' hd')
   ·have : d' = d3 := by simpa using hd'
    subst this
    exact ⟨C2, C3⟩
  ·exact up PB d' (B2 d' hd')
 ·walk_at "rd"
  refine Zaj (pk1.mono sB).at_ rfl ?_
  walk_at "rd"
  refine Zav (fun e7 => ?_) (fun n7 => ?_)
  ·walk_at "rd"
   walk_at "mk"; intro qa hqa
   have sa := Same.new (o := .lst []) hqa
   have ea : upd HB qa (.lst []) qa = some (.lst []) := Zac
   generalize upd HB qa (.lst []) = Ha at sa ea
   have sBa := sB.trans sa
   obtain ⟨pl, pdp⟩ := Zim fun r hr => Zk6 (hd.2.1 r hr) (by lia)
   refine Zj6 (SqL.of (sBa _ _ hq)) (ry.mono sBa.ts) pl (by lia) ea ?_
   walk_at "rd"
   refine ZdN (fun nr => ?_) (fun er => ?_)
   ·have hrp : 0 < d.2.2.length := List.length_pos_iff.mpr fun z => nr (by rw [z]; rfl)
    walk_at "rd"
    refine Zaj (pk1.mono sBa).at_ rfl ?_
    walk_at "rd"
    refine ZaO (SqL.of (sBa _ _ hq)) ?_
    refine rd_I (by lia) ?_
    obtain ⟨j, hj⟩ : ∃ j : Nat, p2 % (ys.length : Int) = j := ⟨_, (Int.toNat_of_nonneg (Int.emod_nonneg _ (by lia))).symm⟩
    have hjl : j < ys.length := by
     have := Int.emod_lt_of_pos p2 (show (0 : Int) < ys.length by lia)
     lia
    rw [hj]
    walk_at "rd"
    refine ⟨q, ys, rfl, SqL.of (sBa _ _ hq), fun qc hqc => ?_⟩
    have sc := Same.new (o := .lst (cutV ys none (some (j : Int)))) hqc
    have ec : upd Ha qc (.lst (cutV ys none (some (j : Int)))) qc = some (.lst (cutV ys none (some (j : Int)))) := Zac
    generalize upd Ha qc (.lst (cutV ys none (some (j : Int)))) = Hc at sc ec
    have sBc := sBa.trans sc
    walk_at "rd"
    refine Zaj (sBc _ _ hp1) (ZaV rfl (List.getElem?_eq_getElem hnl)) ?_
    walk_at "rd"
    refine Zaj (sBc _ _ hq) (ZaV rfl (List.getElem?_eq_getElem hjl)) ?_
    walk_at "rd"
    obtain ⟨rD, er, rr⟩ := ry.get' (List.getElem?_eq_getElem hjl)
    rw [List.getElem?_map] at er
    obtain ⟨r, er2, rfl⟩ := Option.map_eq_some_iff.mp er
    refine use4 ⟨m, p, vs, d, r, b, p0, p1, p2, p3, p4, nm, wd, rfl, sBc _ _ hp1, DefsAt.by1 DA0 sBc, rr.mono sBc.ts, hd.2.1 r (List.mem_of_getElem? er2), hm, hd.2.2.2, by lia, by lia, rfl, pk1.mono sBc, fun r' v H4 B4 R4 s4 => ?_⟩
    walk_at "rd"
    refine ⟨show 1 <= PySem.sizeLine by rw [PySem.sizeLine_eq]; decide, fun qe hqe => ?_⟩
    have se := Same.new (o := .lst [v]) hqe
    have ee : upd H4 qe (.lst [v]) qe = some (.lst [v]) := Zac
    generalize upd H4 qe (.lst [v]) = H5 at se ee
    have lT : (cutV ys none (some (j : Int))).length = min j ys.length := ZcQ
    refine ZcH (se _ _ (s4 _ _ ec)) ee (Zax (by rw [lT, List.length_singleton]; lia)) fun qf hqf => ?_
    have sf := Same.new (o := .lst (cutV ys none (some (j : Int)) ++ [v])) hqf
    have ef : upd H5 qf (.lst (cutV ys none (some (j : Int)) ++ [v])) qf = some (.lst (cutV ys none (some (j : Int)) ++ [v])) := Zac
    generalize upd H5 qf (.lst (cutV ys none (some (j : Int)) ++ [v])) = H6 at sf ef
    have sBf := ((sBc.trans s4).trans se).trans sf
    walk_at "rd"
    rw [show (j : Int) + 1 = ((j + 1 : Nat) : Int) by lia]
    refine ⟨q, ys, rfl, SqL.of (sBf _ _ hq), fun qg hqg => ?_⟩
    have sg := Same.new (o := .lst (cutV ys (some ((j + 1 : Nat) : Int)) none)) hqg
    have eg : upd H6 qg (.lst (cutV ys (some ((j + 1 : Nat) : Int)) none)) qg = some (.lst (cutV ys (some ((j + 1 : Nat) : Int)) none)) := Zac
    generalize upd H6 qg (.lst (cutV ys (some ((j + 1 : Nat) : Int)) none)) = H7 at sg eg
    have lD : (cutV ys (some ((j + 1 : Nat) : Int)) none).length = ys.length - (j + 1) := ZdZ
    refine ZcH (sg _ _ ef) eg (Zax (by rw [List.length_append, lT, lD, List.length_singleton]; lia)) fun qh hqh => ?_
    have c1 : cutV ys none (some (j : Int)) = ys.take j := ZeK (by lia)
    have c2 : cutV ys (some ((j + 1 : Nat) : Int)) none = ys.drop (j + 1) := Zch (by lia)
    rw [c1, c2]
    have sh := Same.new (o := .lst (ys.take j ++ [v] ++ ys.drop (j + 1))) hqh
    have eh : upd H7 qh (.lst (ys.take j ++ [v] ++ ys.drop (j + 1))) qh = some (.lst (ys.take j ++ [v] ++ ys.drop (j + 1))) := Zac
    generalize upd H7 qh (.lst (ys.take j ++ [v] ++ ys.drop (j + 1))) = H8 at sh eh
    have sBh := (sBf.trans sg).trans sh
    walk_at "rd"
    refine ⟨show 3 <= PySem.sizeLine by rw [PySem.sizeLine_eq]; decide, fun qi hqi => ?_⟩
    have si := Same.new (o := .tup [V.int d.1, V.int d.2.1, V.ref qh]) hqi
    have ei : upd H8 qi (.tup [V.int d.1, V.int d.2.1, V.ref qh]) qi = some (.tup [V.int d.1, V.int d.2.1, V.ref qh]) := Zac
    generalize upd H8 qi (.tup [V.int d.1, V.int d.2.1, V.ref qh]) = H9 at si ei
    have sBi := sBh.trans si
    walk_at "rd"
    have rv : Rep H9 (rowD r') v := R4.mono ((((se.trans sf).trans sg).trans sh).trans si).ts
    refine hN _ _ ⟨⟨qi, _, rfl, (d.1, d.2.1, d.2.2.take j ++ [r'] ++ d.2.2.drop (j + 1)), ⟨qi, qh, _, rfl, ei, si _ _ eh, by simp, ?_⟩, by dsimp only; rw [List.length_append, List.length_append, List.length_take, List.length_drop, List.length_singleton]; lia, fun r2 hr2 => ?_, hd.2.2⟩, sBi⟩
    ·dsimp only
     rw [List.map_append, List.map_append, List.map_take, List.map_drop]
     exact (((ry.mono sBi.ts).take j).append (Zap rv ZaE)).append ((ry.mono sBi.ts).drop (j + 1))
    ·rcases List.mem_append.mp hr2 with hr2 | hr2
     ·rcases List.mem_append.mp hr2 with hr2 | hr2
      ·exact (hd.2.1 r2 (List.mem_of_mem_take hr2)).mono (by lia)
      ·have : r2 = r' := by simpa using hr2
       rw [this]; exact B4
     ·exact (hd.2.1 r2 (List.mem_of_mem_drop hr2)).mono (by lia)
   ·walk_at "rd"
    exact hN _ _ ⟨⟨o2, _, rfl, ok2.mono sa⟩, sBa⟩
  ·walk_at "rd"
   exact hN _ _ ⟨⟨o2, _, rfl, ok2⟩, sB⟩
noncomputable def Zlu (r : Str × List D) (i : Int) (ms : List Int) : Prop :=
 (r.1 = "back" -> ms = []) /\ (r.1 = "jump" -> ∃ t, r.2[0]? = some (.int t) /\ ms = [t]) /\
 (r.1 = "zero" \/ r.1 = "below" -> ∃ t, r.2[1]? = some (.int t) /\ ms.Pairwise (· <= ·) /\ ms.Nodup /\ ∀ x, x ∈ ms ↔ x = t \/ x = i + 1) /\
 (r.1 ≠ "back" /\ r.1 ≠ "jump" /\ r.1 ≠ "zero" /\ r.1 ≠ "below" -> ms = [i + 1])
noncomputable def RowN (r : Str × List D) : Prop := (r.1 = "jump" -> ∃ t, r.2[0]? = some (.int t)) /\ (r.1 = "zero" \/ r.1 = "below" -> ∃ t, r.2[1]? = some (.int t))
inductive Pr_nexts (K : PySem.W.Frag) (x y : V) (H : Hp) (Q : VK) : Prop
 | mk (a : Addr) (xs : List V) (i : Nat) (v : V) (r : Str × List D) (_ : x = .ref a) (_ : y = .int i) (_ : H a = some (.lst xs)) (_ : xs[i]? = some v) (_ : Rep H (rowD r) v) (_ : RowN r) (_ : ∀ ms p H', Zlu r i ms -> ms.length <= 2 -> H' p = some (.lst (ms.map V.int)) -> Same H H' -> Q (.ref p) H') : Pr_nexts K x y H Q
noncomputable def ZjY (K : PySem.W.Frag) : Sp := sp2 (Pr_nexts K)
theorem sc_nexts : FnScope ["rows", "at", "row"] ["rows", "at"] (Zag ZcE) := ⟨rfl, rfl, rfl, by decide +kernel, rfl, by decide +kernel, by decide +kernel⟩
theorem ZmR (B : Blt mg) (T_nexts : TopFn K mg "nexts" ZcE ["rows", "at"]) : Callee P w K mg base "nexts" 1 ["rows", "at"] (ZjY K) := by
 refine T_nexts.ok2 sc_nexts fun f cdv A outer s H v1 v2 Q E hr h => ?_
 have nd := sc_nexts.nd
 obtain ⟨a, xs, i, v, r, rfl, rfl, ha, hv, rv, rn, k⟩ := h
 refine' ZaI [some (.ref a), some (.int i), none] rfl ?hb ?hg
 case' hb => refine' Zae ?bab ?bac
 case bab => exact (Zb7 (i := 2) nd rfl (Or.inl rfl) (Zao (k_ix (K := K) rfl) (pv 0) (pv 1) (fun _ _ => rfl)))
 case' bac => refine' Zae ?bad ?bae
 case bad => exact (ZaF (Zal Za1 (Zao (k_ix (K := K) rfl) (pv 2) Zab (fun _ _ => rfl)) Zaw (Zar _)) (Zaf (Zan (Za9 Zad))) Zam)
 case' bae => refine' Zae ?baf ?bag
 case' baf => refine' ZaF ?bah ?bai ?baj
 case bah => exact (Zal Za1 (Zao (k_ix (K := K) rfl) (pv 2) Zab (fun _ _ => rfl)) Zaw (Zar _))
 case bai => exact (Zaf (Zan (Za9 (Zau (Zao (k_ix (K := K) rfl) (pv 2) Zab (fun _ _ => rfl)) Zad))))
 case baj => exact Zam
 case' bag => refine' Zae ?bak ?bal
 case' bak => refine' ZaF ?bam ?ban ?bao
 case' bam => refine' Zal ?bap ?baq ?bar ?bas
 case bap => exact (k_in (K := K) rfl)
 case baq => exact (Zao (k_ix (K := K) rfl) (pv 2) Zab (fun _ _ => rfl))
 case bar => exact (Za0 (Zah Zaw (Zah Zaw Zad)))
 case bas => exact (by with_unfolding_all rfl)
 case' ban => refine' Zaf ?bat
 case' bat => refine' Zan ?bau
 case' bau => refine' Zai ?bav ?baw ?bax ?bay ?baz
 case bav => exact (Zmx (P := P) (w := w) rfl rfl rfl)
 case baw => exact (by rfl)
 case bax => exact B.b_sorted
 case bay => exact ZjE
 case' baz => refine' ZaB ?bba ?bbb
 case' bba => refine' ZbR ?bbc ?bbd ?bbe ?bbf ?bbg
 case bbc => exact (k_setW (P := P) (w := w) (K := K) rfl rfl rfl rfl)
 case bbd => exact (by rfl)
 case bbe => exact B.b_set
 case bbf => exact bt_set
 case bbg => exact (ZgY (Za9 (Zau (Zao (k_ix (K := K) rfl) (pv 2) Zab (fun _ _ => rfl)) (Zbs (Zas Za8 (pv 1) Zab) Zad))) Zad)
 case bbb => exact Zad
 case bao => exact Zam
 case bal => exact (Zaf (Zan (Za9 (Zbs (Zas Za8 (pv 1) Zab) Zad))))
 walk_at "rd"
 refine Zaj ha (ZaV rfl hv) ?_
 walk_at "rd"
 have r0 : ∀ {Q : VK} {H' : Hp}, Rep H' (rowD r) v -> Q (.str r.1) H' -> rIxA K v (.int 0) H' Q := fun {Q H'} h q => ZcR (n := 0) h rfl rfl fun u ru => by rw [Rep] at ru; rw [ru]; exact q
 refine r0 rv ?_
 walk_at "rd"
 refine Zav (fun e => ?_) (fun n1 => ?_)
 ·walk_at "rd"
  walk_at "mk"; intro p hp
  exact k [] p _ ⟨fun _ => rfl, fun z => absurd (e.symm.trans z) (by decide), fun z => by rcases z with z | z <;> exact absurd (e.symm.trans z) (by decide), fun z => absurd e z.1⟩ (by simp) Zac (Same.new hp)
 ·walk_at "rd"
  refine r0 rv ?_
  walk_at "rd"
  refine Zav (fun e => ?_) (fun n2 => ?_)
  ·obtain ⟨t, et⟩ := rn.1 e
   walk_at "rd"
   refine ZgS (n := 1) rv rfl (by simpa using et) ?_
   walk_at "mk"; intro p hp
   exact k [t] p _ ⟨fun z => absurd z n1, fun _ => ⟨t, et, rfl⟩, fun z => by rcases z with z | z <;> exact absurd (e.symm.trans z) (by decide), fun z => absurd e z.2.1⟩ (by simp) Zac (Same.new hp)
  ·walk_at "rd"
   refine r0 rv ?_
   walk_at "rd"
   walk_at "mk"; intro p0 hp0
   have s0 := Same.new (o := .tup [V.str "zero", V.str "below"]) hp0
   refine ⟨p0, _, rfl, .inr (SqT.of Zac), rfl, rfl, ?_⟩
   have ein : inV (.str r.1) [V.str "zero", V.str "below"] = decide (r.1 = "zero" \/ r.1 = "below") := by
    simp only [inV, Zjk, List.any_cons, List.any_nil, Bool.or_false]
    rw [Bool.eq_iff_iff]
    simp
    constructor
    ·rintro (z | z)
     ·exact .inl z.symm
     ·exact .inr z.symm
    ·rintro (z | z)
     ·exact .inl z.symm
     ·exact .inr z.symm
   rw [if_neg Bool.false_ne_true, ein]
   walk_at "rd"
   refine Zav (fun e => ?_) (fun n3 => ?_)
   ·obtain ⟨t, et⟩ := rn.2 e
    walk_at "rd"
    refine ZgS (n := 2) (rv.mono s0.ts) rfl (by simpa using et) ?_
    walk_at "rd"
    walk_at "mk"; intro p1 hp1
    have s1 := Same.new (o := .lst ([t, (i : Int) + 1].map V.int)) hp1
    walk_at "rd"
    refine ZlL (ns := [t, (i : Int) + 1]) (SqL.of Zac) (by simp) fun p2 hp2 => ?_
    have s2 := Same.new (o := Zf1 P w p2 [t, (i : Int) + 1]) hp2
    walk_at "rd"
    refine Zj3 Zac (Nat.lt_of_le_of_lt (show (L3.dd [t, (i : Int) + 1]).length <= 2 from PyProof.Rows.firstMet_length_le _ _) (by decide)) fun ms p3 m1 m2 hp3 => ?_
    have s3 := Same.new (o := .lst (ms.map V.int)) hp3
    refine k ms p3 _ ⟨fun z => absurd z n1, fun z => absurd z n2, fun _ => ⟨t, et, m2, m1.nodup_iff.mpr (L3.dd_nodup _), fun x => ?_⟩, fun z => absurd e (by simp [z])⟩ (by have := m1.length_eq; have : (L3.dd [t, (i : Int) + 1]).length <= 2 := PyProof.Rows.firstMet_length_le _ _; lia) Zac (((s0.trans s1).trans s2).trans s3)
    rw [m1.mem_iff, L3.dd_mem]
    simp
   ·walk_at "rd"
    walk_at "mk"; intro p1 hp1
    exact k [(i : Int) + 1] p1 _ ⟨fun z => absurd z n1, fun z => absurd z n2, fun z => absurd z n3, fun _ => rfl⟩ (by simp) Zac (s0.trans (Same.new hp1))
theorem Zi9 {c : Nat} (hc : c < 128) : ∀ {ps : List (List Nat)}, (∀ p ∈ ps, ∀ x ∈ p, x < 128) -> ∀ x ∈ jn c ps, x < 128
  | [], _, x, hx => by cases hx
  | [p], h, x, hx => h p List.mem_cons_self x hx
  | a :: b :: r, h, x, hx => by
    rcases List.mem_append.mp (show x ∈ a ++ c :: jn c (b :: r) from hx) with z | z
    · exact h a List.mem_cons_self x z
    · rcases List.mem_cons.mp z with rfl | z
      · exact hc
      · exact Zi9 hc (fun p hp => h p (List.mem_cons_of_mem _ hp)) x z
structure PgT (ds : List PDef) : Prop where
 ne : ds ≠ []
 len : ds.length <= 9
 df : ∀ d ∈ ds, DefT d /\ d.2.2.length <= 30
theorem PgT.lines {ds : List PDef} (h : PgT ds) : ((ds.map defL).flatten).length <= 31 * ds.length := by
  have : ∀ (l : List PDef), (∀ d ∈ l, d.2.2.length <= 30) -> ((l.map defL).flatten).length <= 31 * l.length := by
    intro l
    induction l with
    | nil => intro _; exact Nat.le_refl _
    | cons d l ih =>
      intro h
      have h1 := ih fun x hx => h x (List.mem_cons_of_mem _ hx)
      have h2 := h d List.mem_cons_self
      rw [List.map_cons, List.flatten_cons, List.length_append]
      simp only [defL, List.length_cons, List.length_map] at h1 h2 ⊢
      lia
  exact this ds fun d hd => (h.df d hd).2
theorem PgT.few {ds : List PDef} (h : PgT ds) : ((ds.map defL).flatten).length <= 300 := by
 have := h.lines
 have := h.len
 lia
theorem PgT.text {ds : List PDef} (h : PgT ds) : (Zga ds).length <= 900000 := by
 rw [Zdr]
 have h1 := Zg9 (c := 3200) (ls := (ds.map defL).flatten) (fun z hz => by
   obtain ⟨m, hm, hz⟩ := List.mem_flatten.mp hz
   obtain ⟨d, hd, rfl⟩ := List.mem_map.mp hm
   exact ZdY (h.df d hd).1 z hz)
 have := h.lines
 have := h.len
 lia
theorem ZjP {w : Str} {ns : List Int} {r : Str × List D} (h : rowP w ns = some r) : ∀ c ∈ cs w, c < 128 := by
  have hk : ∀ q ∈ partsT, ∀ c ∈ cs q.1, c < 128 := by decide +kernel
  unfold rowP at h
  split at h
  · cases h
  · next ks e =>
    have : ∀ (l : List (Str × List Str)), l.lookup w = some ks -> (w, ks) ∈ l := by
      intro l
      induction l with
      | nil => intro h; cases h
      | cons q l ih =>
        intro h
        obtain ⟨a, b⟩ := q
        rw [List.lookup_cons] at h
        split at h
        · next e => cases h; rw [beq_iff_eq.mp e]; exact List.mem_cons_self
        · exact List.mem_cons_of_mem _ (ih h)
    exact hk _ (this _ e)
theorem Zio {wd : Str} {ns : List Int} (h : ∀ c ∈ cs wd, c < 128) : ∀ c ∈ cs (rowT wd ns), c < 128 := by
 unfold rowT
 rw [Zdj, ZcX]
 refine Zi9 (by decide) fun p hp => ?_
 obtain ⟨q, hq, rfl⟩ := List.mem_map.mp hp
 rcases List.mem_cons.mp hq with rfl | hq
 ·exact h
 ·obtain ⟨n, _, rfl⟩ := List.mem_map.mp hq
  intro x hx
  have := Zef n x hx
  lia
theorem Zkm {ds : List PDef} (h : ∀ d ∈ ds, DefR d) : Zei (Zga ds) := by
 rw [asc_mem, Zdr, Zen, ZcX]
 refine Zi9 (by decide) fun p hp => ?_
 obtain ⟨q, hq, rfl⟩ := List.mem_map.mp hp
 obtain ⟨l, hl, hq⟩ := List.mem_flatten.mp hq
 obtain ⟨d, hd, rfl⟩ := List.mem_map.mp hl
 rcases List.mem_cons.mp hq with rfl | hq
 ·exact Zio (by decide)
 ·obtain ⟨r, hr, rfl⟩ := List.mem_map.mp hq
  exact Zio (ZjP ((h d hd).rows r hr).row)
theorem _root_.L2.DefsAt.free {av : List Addr} {H : Hp} : ∀ {ds : List PDef} {vs : List V}, DefsAt av H ds vs -> DefsAt [] H ds vs
 | [], _, h => h
 | _ :: _, _, ⟨v, r, e, ⟨t, q, ys, e1, h1, h2, _, h3⟩, hr⟩ => ⟨v, r, e, ⟨t, q, ys, e1, h1, h2, List.not_mem_nil, h3⟩, L2.DefsAt.free hr⟩
theorem head_iff {d : PDef} : Zbg d = true ↔ (1 <= d.2.1 /\ d.2.1 <= 8 /\ 0 <= d.1 /\ d.1 <= 4 /\ d.1 <= d.2.1 /\ 1 <= d.2.2.length /\ d.2.2.length <= 30) := by
 simp only [Zbg, Bool.and_eq_true, decide_eq_true_eq]
 constructor
 ·rintro ⟨⟨a, b⟩, ⟨c, e⟩, f, g⟩
  by_cases h : d.2.1 < 4
  ·rw [if_pos h] at e
   refine ⟨a, b, c, by lia, e, by lia, by lia⟩
  ·rw [if_neg h] at e
   refine ⟨a, b, c, e, by lia, by lia, by lia⟩
 ·rintro ⟨a, b, c, e, e', f, g⟩
  refine ⟨⟨a, b⟩, ⟨c, ?_⟩, by lia, by lia⟩
  split <;> assumption
theorem pgB_D {m L : Nat} {ds : List PDef} (h : PgB m L ds) (hm : m <= 1000) (hL : L <= 1000) (hl : ds.length <= 1000) : PgD ds :=
 ⟨hl, fun d hd => Nat.le_trans (h d hd).1 hL, fun d hd r hr => ⟨Nat.le_trans ((h d hd).2.1 r hr).n hm, Zk6 ((h d hd).2.1 r hr) hm⟩⟩
theorem Zi1 {wd ls : Str} (h : (wd, ls) ∈ lettersL) : wd.length <= 10 := by
 have hk : ∀ q ∈ lettersL, q.1.length <= 10 := by decide +kernel
 exact hk _ h
theorem ZlF {n : Int} (h0 : -1000 <= n) (h1 : n <= 1000) : Za3 n := by
 unfold Za3
 lia
theorem progB {sg : List (Int × Int)} {ds : List PDef} (h : ProgOk sg ds) : PgB 10 30 ds := by
 intro d hd
 have hq := h.sgs.all (d.1, d.2.1) (by rw [<- h.heads]; exact List.mem_map.mpr ⟨d, hd, rfl⟩)
 simp only at hq
 obtain ⟨many, m1, m2, R⟩ := h.rows d hd
 refine ⟨by have := R.len; lia, fun r hr => ?_, ZlF (by lia) (by lia), ZlF (by lia) (by lia)⟩
 obtain ⟨ls, g⟩ := R.all r hr
 refine ⟨Zi1 g.tab, by have := g.len; have := le3 g.tab; lia, fun p hp => ?_⟩
 obtain ⟨i, hi⟩ := List.mem_iff_getElem?.mp hp
 have hi' : i < ls.cps.size := by rw [<- g.len]; exact (List.getElem?_eq_some_iff.mp hi).1
 obtain ⟨e, ee, ge⟩ := g.parts i ls.cps[i] (Array.getElem?_eq_getElem hi')
 rw [hi] at ee
 cases ee
 rcases ge with ⟨_, n, rfl, p⟩ | ⟨_, args, f, tk, _, et, rfl, ha, hb⟩
 ·exact .inl ⟨n, rfl, p.2.2.2.2⟩
 ·have := h.sgs.all tk (List.mem_of_getElem? et)
  exact .inr ⟨args, rfl, by lia, fun n hn => ZlF (by have := hb n hn; lia) (by have := hb n hn; lia)⟩
theorem ZeX {bx rw : Int} {ds : List PDef} {r : Str × List D} (h : Za2 bx rw ds r = true) : ∃ ks, partsT.lookup r.1 = some ks /\ r.2.length = ks.length /\ (∀ (i : Nat) k d, ks[i]? = some k -> r.2[i]? = some d -> Zay bx rw ds.length k d = true) /\ (r.1 = "call" -> Zd0 ds r = true) := by
 unfold Za2 at h
 split at h
 ·cases h
 ·next ks lk =>
  simp only [Bool.and_eq_true, Bool.or_eq_true, decide_eq_true_eq, Bool.not_eq_true', decide_eq_false_iff_not] at h
  refine ⟨ks, lk, h.1.1, fun i k d e1 e2 => ?_, fun e => h.2.resolve_left fun z => z e⟩
  have hz := h.1.2
  unfold Zdl at hz
  exact List.all_eq_true.mp hz (d, k) (List.mem_of_getElem? (List.getElem?_zip_eq_some.mpr ⟨e2, e1⟩))
theorem Zdd {bx rw df : Int} {k : Str} {d : D} (h : Zay bx rw df k d = true) (hk : k ≠ "boxes") : ∃ n, d = .int n /\ Zel bx rw df k n = true := by
  cases d with
  | int n =>
    simp only [Zay, Bool.and_eq_true] at h
    exact ⟨n, rfl, h.2⟩
  | tup ds => simp [Zay, hk] at h
  | non => simp [Zay] at h
  | bl _ => simp [Zay] at h
  | str _ => simp [Zay] at h
theorem Zks {bx rw df : Int} {d : D} (h : Zay bx rw df "boxes" d = true) : ∃ ds, d = .tup ds := by
 cases d with
 | tup ds => exact ⟨ds, rfl⟩
 | int n => simp [Zay] at h
 | non => simp [Zay] at h
 | bl _ => simp [Zay] at h
 | str _ => simp [Zay] at h
theorem Zee {k : Str} {ks : List Str} (h : partsT.lookup k = some ks) : (k, ks) ∈ partsT := by
  have : ∀ (l : List (Str × List Str)), l.lookup k = some ks -> (k, ks) ∈ l := by
    intro l
    induction l with
    | nil => intro h; cases h
    | cons q l ih =>
      intro h
      obtain ⟨a, b⟩ := q
      rw [List.lookup_cons] at h
      split at h
      · next e => cases h; rw [beq_iff_eq.mp e]; exact List.mem_cons_self
      · exact List.mem_cons_of_mem _ (ih h)
  exact this _ h
theorem Zkv {k : Str} {ks : List Str} (h : partsT.lookup k = some ks) (hc : k ≠ Zcy) : ∀ x ∈ ks, x ≠ "boxes" := by
 have hk : ∀ q ∈ partsT, q.1 ≠ Zcy -> ∀ x ∈ q.2, x ≠ "boxes" := by decide +kernel
 exact hk _ (Zee h) hc
theorem ZkF : ∀ {l : List D}, (∀ d ∈ l, ∃ n, d = .int n /\ Za3 n) -> ∃ ns : List Int, l = ns.map D.int /\ ∀ n ∈ ns, Za3 n := by
  intro l
  induction l with
  | nil => intro _; exact ⟨[], rfl, fun n hn => by cases hn⟩
  | cons d l ih =>
    intro h
    obtain ⟨n, rfl, hn⟩ := h d List.mem_cons_self
    obtain ⟨ns, rfl, hns⟩ := ih fun x hx => h x (List.mem_cons_of_mem _ hx)
    refine ⟨n :: ns, rfl, fun m hm => ?_⟩
    rcases List.mem_cons.mp hm with rfl | hm
    · exact hn
    · exact hns m hm
theorem Zj2 {m : Nat} {bx rw : Int} {ds : List PDef} {r : Str × List D} (h : Za2 bx rw ds r = true) (hb : RowB m r) : RowR r := by
 obtain ⟨ks, lk, hl, hp, _⟩ := ZeX h
 obtain ⟨w, ps⟩ := r
 by_cases hc : w = Zcy
 ·subst hc
  obtain rfl := ZeD lk
  have l3 : ps.length = 3 := hl
  obtain ⟨x, y, z, rfl⟩ : ∃ x y z, ps = [x, y, z] := by
   rcases ps with _ | ⟨x, _ | ⟨y, _ | ⟨z, _ | ⟨u, v⟩⟩⟩⟩
   ·cases l3
   ·cases l3
   ·cases l3
   ·exact ⟨x, y, z, rfl⟩
   ·simp at l3
  obtain ⟨a, rfl, _⟩ := Zdd (hp 0 "box" x rfl rfl) (by decide)
  obtain ⟨b, rfl, _⟩ := Zdd (hp 1 "def" y rfl rfl) (by decide)
  obtain ⟨zs, rfl⟩ := Zks (hp 2 "boxes" z rfl rfl)
  have sa : Za3 a := by
   rcases hb.p (.int a) List.mem_cons_self with ⟨n, e, s⟩ | ⟨ns, e, _⟩
   ·cases e; exact s
   ·cases e
  have sb : Za3 b := by
   rcases hb.p (.int b) (List.mem_cons_of_mem _ List.mem_cons_self) with ⟨n, e, s⟩ | ⟨ns, e, _⟩
   ·cases e; exact s
   ·cases e
  rcases hb.p (.tup zs) (List.mem_cons_of_mem _ (List.mem_cons_of_mem _ List.mem_cons_self)) with ⟨n, e, s⟩ | ⟨ns, e, _, hs⟩
  ·cases e
  ·cases e
   have en : L2.ZbE (Zcy, [.int a, .int b, .tup (ns.map D.int)]) = a :: b :: ns := by
    show [a] ++ ([b] ++ ((ns.map D.int).flatMap intD ++ [])) = _
    rw [ZeE, List.append_nil]
    rfl
   refine ⟨?_, ?_⟩
   ·rw [en]
    unfold rowP
    dsimp only
    rw [lk]
    rfl
   ·rw [en]
    intro n hn
    rcases List.mem_cons.mp hn with rfl | hn
    ·exact sa
    ·rcases List.mem_cons.mp hn with rfl | hn
     ·exact sb
     ·exact hs n hn
 ·have hall : ∀ d ∈ ps, ∃ n, d = .int n /\ Za3 n := fun d hd => by
   obtain ⟨i, hi⟩ := List.mem_iff_getElem?.mp hd
   have hi' : i < ks.length := by rw [<- hl]; exact (List.getElem?_eq_some_iff.mp hi).1
   obtain ⟨n, rfl, _⟩ := Zdd (hp i _ d (List.getElem?_eq_getElem hi') hi) (Zkv lk hc _ (List.getElem_mem hi'))
   rcases hb.p _ hd with ⟨n', e, s⟩ | ⟨ns, e, _⟩
   ·cases e; exact ⟨_, rfl, s⟩
   ·cases e
  obtain ⟨ns, rfl, hs⟩ := ZkF hall
  have en : L2.ZbE (w, ns.map D.int) = ns := Zfv ns
  refine ⟨?_, by rw [en]; exact hs⟩
  rw [en]
  unfold rowP
  dsimp only
  rw [lk]
  show (if w = Zcy then _ else _) = _
  rw [if_neg hc, if_pos (by rw [<- hl, List.length_map])]
theorem ZeI {ds : List PDef} (h : Zdx ds = true) : 1 <= ds.length /\ ds.length <= 6 /\ ∀ d ∈ ds, d.1 <= 4 /\ d.2.2.length <= 30 /\ ZbT ds d = true := by
 simp only [Zdx, Bool.and_eq_true, List.all_eq_true, decide_eq_true_eq] at h
 obtain ⟨⟨h1, h6⟩, hh, _, hf⟩ := h
 refine ⟨by lia, by lia, fun d hd => ?_⟩
 have := head_iff.mp (hh d hd)
 exact ⟨by lia, by lia, hf d hd⟩
theorem ZdX {ds : List PDef} {d : PDef} (h : ZbT ds d = true) : (∀ r ∈ d.2.2, Za2 d.2.1 d.2.2.length ds r = true) /\ ∃ (rs : List (Str × List D)) (r : Str × List D), d.2.2 = rs ++ [r] /\ (r.1 = "jump" \/ r.1 = "back") := by
  simp only [ZbT, Bool.and_eq_true, List.all_eq_true] at h
  refine ⟨h.1, ?_⟩
  have h2 := h.2
  cases e : d.2.2.getLast? with
  | none => rw [e] at h2; cases h2
  | some r =>
    rw [e] at h2
    have hne : d.2.2 ≠ [] := fun z => by rw [z] at e; cases e
    refine ⟨d.2.2.dropLast, r, ?_, by simpa using h2⟩
    have := List.getLast?_eq_some_getLast hne
    rw [e] at this
    rw [Option.some.inj this]
    exact (List.dropLast_concat_getLast hne).symm
theorem ZkJ {m L : Nat} {ds : List PDef} (h : Zdx ds = true) (hB : PgB m L ds) : PgT ds := by
 obtain ⟨h1, h6, hd⟩ := ZeI h
 have tk : ∀ g, Zd2 ds g <= 4 := fun g => by
  unfold Zd2
  cases e : ds[g.toNat]? with
  | none => exact (by decide : (0 : Int) <= 4)
  | some d => exact (hd d (List.mem_of_getElem? e)).1
 have hR : ∀ d ∈ ds, DefR d := fun d hd' => ⟨(hB d hd').2.2.1, (hB d hd').2.2.2, fun r hr => Zj2 ((ZdX (hd d hd').2.2).1 r hr) ((hB d hd').2.1 r hr)⟩
 refine ⟨fun e => by rw [e] at h1; exact absurd h1 (by decide), by lia, fun d hd' => ⟨⟨hR d hd', by have := (hd d hd').2; lia, fun r hr => ?_⟩, (hd d hd').2.1⟩⟩
 obtain ⟨ks, lk, hl, _, hcf⟩ := ZeX ((ZdX (hd d hd').2.2).1 r hr)
 have hk := Zfr lk
 rcases ((hR d hd').rows r hr).shape with ⟨ec, a, b, qs, e, en⟩ | ⟨_, ns, e, en⟩
 ·rw [en]
  have z := hcf ec
  unfold Zd0 at z
  rw [e] at z
  have z := decide_eq_true_eq.mp z
  rw [List.length_map] at z
  have := tk b
  simp only [List.length_cons]
  lia
 ·rw [en]
  rw [e, List.length_map] at hl
  lia
noncomputable def Rise (many : Int) (ms : List Int) : Prop := (∀ x ∈ ms, 0 <= x /\ x < many) /\ ms.Pairwise (· < ·)
theorem up_lt : ∀ {ms : List Int}, ms.Pairwise (· <= ·) -> ms.Nodup -> ms.Pairwise (· < ·)
  | [], _, _ => .nil
  | x :: ms, h1, h2 => by
    cases h1 with
    | cons a b =>
      cases h2 with
      | cons c e => exact .cons (fun y hy => by have := a y hy; have := c y hy; lia) (up_lt b e)
theorem ZgO {bx rw : Int} {ds : List PDef} {r : Str × List D} (h : Za2 bx rw ds r = true) (e : r.1 = "jump") : ∃ t, r.2[0]? = some (.int t) /\ 0 <= t /\ t < rw := by
 obtain ⟨ks, lk, hl, hp, _⟩ := ZeX h
 rw [e] at lk
 obtain rfl : ks = (["row"] : List Str) := by
  have hk : ∀ q ∈ partsT, q.1 = "jump" -> q.2 = (["row"] : List Str) := by decide +kernel
  exact hk _ (Zee lk) rfl
 have e0 : r.2[0]? = some (r.2[0]'(by rw [hl]; decide)) := List.getElem?_eq_getElem _
 obtain ⟨t, et, hf⟩ := Zdd (hp 0 "row" _ rfl e0) (by decide)
 rw [et] at e0
 refine ⟨t, e0, ?_⟩
 have : (decide (0 <= t) && decide (t < rw)) = true := hf
 simpa using this
theorem ZgN {bx rw : Int} {ds : List PDef} {r : Str × List D} (h : Za2 bx rw ds r = true) (e : r.1 = "zero" \/ r.1 = "below") : ∃ t, r.2[1]? = some (.int t) /\ 0 <= t /\ t < rw := by
 obtain ⟨ks, lk, hl, hp, _⟩ := ZeX h
 obtain rfl : ks = (["box", "row"] : List Str) := by
  have hk : ∀ q ∈ partsT, (q.1 = "zero" \/ q.1 = "below") -> q.2 = (["box", "row"] : List Str) := by decide +kernel
  exact hk _ (Zee lk) e
 have e0 : r.2[1]? = some (r.2[1]'(by rw [hl]; decide)) := List.getElem?_eq_getElem _
 obtain ⟨t, et, hf⟩ := Zdd (hp 1 "row" _ rfl e0) (by decide)
 rw [et] at e0
 refine ⟨t, e0, ?_⟩
 have : (decide (0 <= t) && decide (t < rw)) = true := hf
 simpa using this
theorem row_N {bx rw : Int} {ds : List PDef} {r : Str × List D} (h : Za2 bx rw ds r = true) : RowN r := ⟨fun e => by obtain ⟨t, h1, _⟩ := ZgO h e; exact ⟨t, h1⟩, fun e => by obtain ⟨t, h1, _⟩ := ZgN h e; exact ⟨t, h1⟩⟩
theorem Zmo {ds : List PDef} {d : PDef} {i : Nat} {r : Str × List D} {ms : List Int} (h : ZbT ds d = true) (hr : d.2.2[i]? = some r) (hN : Zlu r i ms) : Rise d.2.2.length ms /\ (ms = [] ↔ r.1 = "back") := by
 obtain ⟨hall, rs, rl, el, hlast⟩ := ZdX h
 have hf := hall r (List.mem_of_getElem? hr)
 obtain ⟨n1, n2, n3, n4⟩ := hN
 have hin : r.1 ≠ "jump" -> r.1 ≠ "back" -> (i : Int) + 1 < d.2.2.length := fun a b => by
  rw [el, List.length_append, List.length_singleton]
  rw [el] at hr
  by_cases hi : i < rs.length
  ·lia
  ·have hi' := (List.getElem?_eq_some_iff.mp hr).1
   rw [List.length_append, List.length_singleton] at hi'
   have : i = rs.length := by lia
   subst this
   rw [List.getElem?_concat_length] at hr
   cases hr
   rcases hlast with z | z
   ·exact absurd z a
   ·exact absurd z b
 have one : ∀ {t : Int}, 0 <= t -> t < d.2.2.length -> Rise d.2.2.length [t] := fun h0 h1 => ⟨fun x hx => by rw [List.mem_singleton.mp hx]; exact ⟨h0, h1⟩, .cons (fun y hy => by cases hy) .nil⟩
 by_cases hb : r.1 = "back"
 ·rw [n1 hb]
  exact ⟨⟨(fun x hx => by cases hx), .nil⟩, by simp [hb]⟩
 ·by_cases hj : r.1 = "jump"
  ·obtain ⟨t, et, rfl⟩ := n2 hj
   obtain ⟨t', et', h0, h1⟩ := ZgO hf hj
   rw [et] at et'
   cases et'
   exact ⟨one h0 h1, by simp [hb]⟩
  ·have hi := hin hj hb
   by_cases hz : r.1 = "zero" \/ r.1 = "below"
   ·obtain ⟨t, et, p, nd, mem⟩ := n3 hz
    obtain ⟨t', et', h0, h1⟩ := ZgN hf hz
    rw [et] at et'
    cases et'
    refine ⟨⟨fun x hx => ?_, up_lt p nd⟩, ?_⟩
    ·rcases (mem x).mp hx with rfl | rfl
     ·exact ⟨h0, h1⟩
     ·exact ⟨by lia, hi⟩
    ·refine ⟨fun z => ?_, fun z => absurd z hb⟩
     have := (mem t).mpr (.inl rfl)
     rw [z] at this
     cases this
   ·rw [n4 ⟨hb, hj, fun z => hz (.inl z), fun z => hz (.inr z)⟩]
    exact ⟨one (by lia) hi, by simp [hb]⟩
inductive Pr_rising (x y : V) (H : Hp) (Q : VK) : Prop
 | mk (p ms many) (_ : x = .ref p) (_ : y = .int many) (_ : H p = some (.lst (ms.map V.int))) (_ : ms.length <= 100) (_ : Rise many ms) (_ : Q (.bl true) H) : Pr_rising x y H Q
noncomputable def Zia : Sp := sp2 (Pr_rising)
theorem sc__law_rising : FnScope ["found", "many", "k"] ["found", "many"] (Zag Zbb) := ⟨rfl, rfl, rfl, by decide +kernel, rfl, by decide +kernel, by decide +kernel⟩
theorem Zff (B : Blt mg) (T__law_rising : TopFn K mg "_law_rising" Zbb ["found", "many"]) : Callee P w K mg base "_law_rising" 1 ["found", "many"] Zia := by
 refine T__law_rising.ok2 sc__law_rising fun f cdv A outer s H v1 v2 Q E hr h => ?_
 have nd := sc__law_rising.nd
 obtain ⟨p, ms, many, rfl, rfl, hp, hl, ⟨hin, hup⟩, k⟩ := h
 refine' ZaI [some (.ref p), some (.int many), none] rfl ?hb ?hg
 case' hb => refine' Zae ?bab ?bac
 case' bab => refine' ZaF ?bad ?bae ?baf
 case' bad => refine' Zb1 ?bag
 case' bag => refine' Zbm ?bah
 case' bah => refine' Zai ?bai ?baj ?bak ?bal ?bam
 case bai => exact ZaQ
 case baj => exact (by rfl)
 case bak => exact B.b_isinstance
 case bal => exact Zaq
 case bam => exact (Zaa (pv 0) (Zaa (Za7 (v := .ty "list") (by rfl) B.b_list ZcY rfl) Zad))
 case bae => exact (Zaf (Zan Zb9))
 case baf => exact Zam
 case' bac => refine' Zae ?ban ?bao
 case' ban => refine' ZcA ?bap ?baq ?bar ?bas ?bat
 case bap => exact PassesOwn.never
 case baq => exact rfl
 case bar => exact (ZbQ rfl B.b_range (ZaB (Zai (Zbt (K := K) rfl) (by rfl) B.b_len ZaW (Zaa (pv 0) Zad)) Zad))
 case bas => exact (ZaG (i := 2) nd rfl (Or.inl rfl))
 case' bat => refine' Zae ?bau ?bav
 case' bau => refine' ZaF ?baw ?bax ?bay
 case' baw => refine' PW.pt ?baz
 case' baz => refine' Zf8 ?bba ?bbb
 case' bba => refine' Zb1 ?bbc
 case' bbc => refine' Zbm ?bbd
 case' bbd => refine' Zai ?bbe ?bbf ?bbg ?bbh ?bbi
 case bbe => exact ZaQ
 case bbf => exact (by rfl)
 case bbg => exact B.b_isinstance
 case bbh => exact Zaq
 case bbi => exact (Zau (Zao (k_ix (K := K) rfl) (pv 0) (pv 2) (fun _ _ => rfl)) (Zaa (Za7 (v := .ty "int") (by rfl) B.b_int ZfQ rfl) Zad))
 case' bbb => refine' Zf8 ?bbj ?bbk
 case' bbj => refine' Zbm ?bbl
 case' bbl => refine' Zai ?bbm ?bbn ?bbo ?bbp ?bbq
 case bbm => exact ZaQ
 case bbn => exact (by rfl)
 case bbo => exact B.b_isinstance
 case bbp => exact Zaq
 case bbq => exact (Zau (Zao (k_ix (K := K) rfl) (pv 0) (pv 2) (fun _ _ => rfl)) (Zaa (Za7 (v := .ty "bool") (by rfl) B.b_bool Zes rfl) Zad))
 case' bbk => refine' Zf8 ?bbr ?bbs
 case bbr => exact (Zal ZiO (Zao (k_ix (K := K) rfl) (pv 0) (pv 2) (fun _ _ => rfl)) Zab (Zar _))
 case bbs => exact (Zfp (Zal op_ge (Zao (k_ix (K := K) rfl) (pv 0) (pv 2) (fun _ _ => rfl)) (pv 1) (Zar _)))
 case bax => exact (Zaf (Zan Zb9))
 case bay => exact Zam
 case' bav => refine' Zaf ?bbt
 case' bbt => refine' ZaF ?bbu ?bbv ?bbw
 case' bbu => refine' PW.pt ?bbx
 case' bbx => refine' Zb0 ?bby ?bbz
 case bby => exact (Zal Zku (pv 2) Zab (Zar _))
 case' bbz => refine' ZbV ?bca
 case' bca => refine' Zal ?bcb ?bcc ?bcd ?bce
 case bcb => exact op_ge
 case bcc => exact (Zao (k_ix (K := K) rfl) (pv 0) (Zas ZcI (pv 2) Zab) (fun _ _ => rfl))
 case bcd => exact (Zao (k_ix (K := K) rfl) (pv 0) (pv 2) (fun _ _ => rfl))
 case bce => exact (Zar _)
 case bbv => exact (Zaf (Zan Zb9))
 case bbw => exact Zam
 case bao => exact (Zaf (Zan Zb9))
 walk_at "rd"
 refine ZaZ (Zd1 hp) (by simp) ⟨_, rfl, Zgk ?_⟩
 walk_at "rd"
 refine ZaO (SqL.of hp) ?_
 walk_at "rd"
 rw [List.length_map]
 refine Zdh (by lia) (by lia) ?_
 refine Zcu (n := (ms.length : Int).toNat) (fun i σ Hx => (∃ x2, σ = [some (.ref p), some (.int many), x2]) /\ Hx = H) ⟨⟨none, rfl⟩, rfl⟩ ?_ ?_
 ·rintro i σ Hx hi ⟨⟨x2, rfl⟩, rfl⟩
  have hi' : i < ms.length := by lia
  have ei : (ms.map V.int)[i]? = some (.int ms[i]) := by rw [List.getElem?_map, List.getElem?_eq_getElem hi']; rfl
  obtain ⟨h0, h1⟩ := hin _ (List.getElem_mem hi')
  have at_ : ∀ {Q : VK}, Q (.int ms[i]) Hx -> rIxA K (.ref p) (.int (0 + (i : Int))) Hx Q := fun q => Zaj hp (ZaV (n := i) (by lia) ei) q
  walk_at "rd"
  refine at_ ?_
  walk_at "rd"
  refine ZaZ (t := "int") rfl (by simp) ⟨_, rfl, Zgk ?_⟩
  walk_at "rd"
  refine at_ ?_
  walk_at "rd"
  refine ZaZ (t := "int") rfl (by simp) ⟨_, rfl, iteF ?_⟩
  walk_at "rd"
  refine at_ ?_
  walk_at "rd"
  refine ZcS (by lia) ?_
  walk_at "rd"
  refine at_ ?_
  walk_at "rd"
  refine ZcS (by lia) ?_
  walk_at "rd"
  refine Zav (fun hk => ?_) (fun _ => ?_)
  ·have hi1 : i - 1 < ms.length := by lia
   have ej : (ms.map V.int)[i - 1]? = some (.int ms[i - 1]) := by rw [List.getElem?_map, List.getElem?_eq_getElem hi1]; rfl
   have hlt : ms[i - 1] < ms[i] := List.pairwise_iff_getElem.mp hup (i - 1) i hi1 hi' (by lia)
   walk_at "rd"
   refine Zaj hp (ZaV (n := i - 1) (by lia) ej) ?_
   walk_at "rd"
   refine at_ ?_
   walk_at "rd"
   refine ZcS (by lia) ?_
   walk_at "rd"
   exact ⟨⟨_, rfl⟩, rfl⟩
  ·walk_at "rd"
   exact ⟨⟨_, rfl⟩, rfl⟩
 ·rintro σ Hx ⟨⟨x2, rfl⟩, rfl⟩
  walk_at "rd"
  exact k
theorem PickOk.bs {H H' : Hp} {b bg : Addr} {p0 p1 p2 p3 p4 nm : Int} {wd : Str} (h : PickOk H b p0 p1 p2 p3 p4 nm wd) (n : b ≠ bg) (s : BSame bg H H') : PickOk H' b p0 p1 p2 p3 p4 nm wd := ⟨s _ _ n h.at_, h.b0, h.b1, h.b2, h.b3, h.b4, h.bw, h.nmS⟩
inductive PickV (H : Hp) (bg : Addr) (v : V) : Prop
 | mk (b p0 p1 p2 p3 p4 nm wd) (_ : v = .ref b) (_ : b ≠ bg) (_ : PickOk H b p0 p1 p2 p3 p4 nm wd) : PickV H bg v
theorem PickV.bs {H H' : Hp} {bg : Addr} {v : V} (h : PickV H bg v) (s : BSame bg H H') : PickV H' bg v := by
 obtain ⟨b, p0, p1, p2, p3, p4, nm, wd, e, n, k⟩ := h
 exact ⟨b, p0, p1, p2, p3, p4, nm, wd, e, n, k.bs n s⟩
theorem PickV.mono {H H' : Hp} {bg : Addr} {v : V} (h : PickV H bg v) (s : Same H H') : PickV H' bg v := h.bs (BSame.of s)
noncomputable def mAt (i : Nat) : Nat := if i = 0 then 10 else if i = 1 then 31 else 73
theorem sc_law : FnScope ["script", "bag", "picks", "program", "pick", "takes", "boxes", "rows", "at", "later"] ["script"] (Zag ZeW) := ⟨rfl, rfl, rfl, by decide +kernel, rfl, by decide +kernel, by decide +kernel⟩
theorem Zi2 {f : Addr} {fd : FuncData} (B : Blt mg) (G : Glb K w mg) (T_part_fits : TopFn K mg "part_fits" Zbn ["part", "kind", "counts"]) (T_is_whole : TopFn K mg "is_whole" ZbL ["thing"]) (T_row_fits : TopFn K mg "row_fits" ZbJ ["program", "row", "counts"]) (T_rows_fit : TopFn K mg "rows_fit" ZbI ["program", "f"]) (T_head_fits : TopFn K mg "head_fits" Zby ["one"]) (T_formed : TopFn K mg "formed" Zcd ["program"]) (T__law_bag : TopFn K mg "_law_bag" ZbN ["script"]) (T__law_draw : TopFn K mg "_law_draw" ZbC ["bag", "many"]) (T__law_number : TopFn K mg "_law_number" Zbc ["bag"]) (T__law_letters : TopFn K mg "_law_letters" Za5 []) (T__law_part : TopFn K mg "_law_part" ZbB ["bag", "letter", "boxes", "many", "signs"]) (T__law_row : TopFn K mg "_law_row" ZbM ["bag", "word", "boxes", "many", "signs"]) (T__law_rows : TopFn K mg "_law_rows" Zbz ["bag", "boxes", "many", "signs"]) (T__law_signs : TopFn K mg "_law_signs" Zbk ["bag", "many"]) (T__law_program : TopFn K mg "_law_program" Za4 ["bag"]) (T__law_bent_args : TopFn K mg "_law_bent_args" ZaT ["args", "pick", "mend"]) (T__law_bound : TopFn K mg "_law_bound" Zbl ["program", "one", "row", "k"]) (T__law_pick : TopFn K mg "_law_pick" ZbA ["bag"]) (T__law_bent_row : TopFn K mg "_law_bent_row" ZaX ["program", "one", "row", "pick"]) (T__law_bent_rows : TopFn K mg "_law_bent_rows" ZaR ["rows", "pick"]) (T__law_bent_defs : TopFn K mg "_law_bent_defs" ZaS ["program", "pick"]) (T__law_bent : TopFn K mg "_law_bent" ZbD ["program", "pick"]) (T_shown_row : TopFn K mg "shown_row" Zbu ["word", "numbers"]) (T_numbers_of : TopFn K mg "numbers_of" Zbj ["row"]) (T_shown_def : TopFn K mg "shown_def" Zbv ["one"]) (T_shown : TopFn K mg "shown" ZcD ["program"]) (T_read_whole : TopFn K mg "read_whole" Zbi ["text", "most"]) (T_read_head : TopFn K mg "read_head" Zbw ["numbers"]) (T_read_call : TopFn K mg "read_call" Zbx ["numbers"]) (T_read_row : TopFn K mg "read_row" ZbK ["word", "numbers"]) (T_read : TopFn K mg "read" ZdL ["text"]) (T_nexts : TopFn K mg "nexts" ZcE ["rows", "at"]) (T__law_rising : TopFn K mg "_law_rising" Zbb ["found", "many"]) (T__law_alike : TopFn K mg "_law_alike" Zbd ["found", "due"]) (T_law : Fun K "law" "law" ZeW f fd) : FnOk P w K mg base CX0 12 f fd ["script"] (Zie K) := by
  have Cis_whole := ZhH (P := P) (w := w) (base := base) B T_is_whole
  have Cpart_fits := Zfs (P := P) (w := w) (base := base) B G T_part_fits Cis_whole (by decide) (Zfs B G T_part_fits Cis_whole (by decide) (part_0 T_part_fits))
  have Crow_fits := ZhF (P := P) (w := w) (base := base) B G T_row_fits Cpart_fits
  have Crows_fit := ZhE (P := P) (w := w) (base := base) B G T_rows_fit Crow_fits
  have Chead_fits := Zgv (P := P) (w := w) (base := base) B G T_head_fits Cis_whole
  have Cformed := ZkS (P := P) (w := w) (base := base) B G T_formed Chead_fits Crows_fit
  have ZjM := ZhJ (P := P) (w := w) (base := base) B T__law_bag
  have Zak := Zgz (P := P) (w := w) (base := base) B T__law_draw
  have ZbO := Zfg (P := P) (w := w) (base := base) T__law_number Zak
  have ZaN := Zez (P := P) (w := w) (base := base) T__law_letters
  have ZdB := Zgy (P := P) (w := w) (base := base) B T__law_part Zak ZbO
  have Zdk := ZhI (P := P) (w := w) (base := base) B T__law_row Zak ZaN ZdB
  have ZdA := Zgw (P := P) (w := w) (base := base) B T__law_rows Zak ZaN Zdk
  have Zc1 := ZfO (P := P) (w := w) (base := base) B T__law_signs Zak
  have Zfj := Zey (P := P) (w := w) (base := base) B T__law_program Zak Zc1 ZdA
  have Zcc := ZdT (P := P) (w := w) (base := base) B T__law_bent_args
  have Zc2 := ZfP (P := P) (w := w) (base := base) B T__law_bound ZaN
  have ZhN := Zgx (P := P) (w := w) (base := base) B T__law_pick Zak ZbO
  have Zcn := Zer (P := P) (w := w) (base := base) B T__law_bent_row ZaN Zc2 Zcc
  have Zca := ZdR (P := P) (w := w) (base := base) B T__law_bent_rows
  have Zcb := ZdS (P := P) (w := w) (base := base) B T__law_bent_defs
  have ZhO := ZgA (P := P) (w := w) (base := base) B T__law_bent Zcb Zca Zcn
  have Cshown_row := Zgr (P := P) (w := w) (base := base) B T_shown_row
  have Cnumbers_of := ZfN (P := P) (w := w) (base := base) B T_numbers_of
  have Cshown_def := Zgs (P := P) (w := w) (base := base) B T_shown_def Cshown_row Cnumbers_of
  have Cshown := ZmQ (P := P) (w := w) (base := base) B T_shown Cshown_def
  have Cread_whole := ZfM (P := P) (w := w) (base := base) B G T_read_whole
  have Cread_head := Zgt (P := P) (w := w) (base := base) B T_read_head
  have Cread_call := Zgu (P := P) (w := w) (base := base) B T_read_call
  have Cread_row := ZhG (P := P) (w := w) (base := base) B G T_read_row Cread_call
  have Cread := c_read (P := P) (w := w) (base := base) B G T_read Cread_whole Cread_head Cread_row
  have Cnexts := ZmR (P := P) (w := w) (base := base) B T_nexts
  have ZfY := Zff (P := P) (w := w) (base := base) B T__law_rising
  have Zc3 := Zdz (P := P) (w := w) (base := base) B T__law_alike (Zdz B T__law_alike (Zdz B T__law_alike (Zdz B T__law_alike (Zdz B T__law_alike (Zdz B T__law_alike (al_0 T__law_alike))))))
  refine T_law.law (k := 11) sc_law fun cdv A outer s H a ns Q E hr hS hlen k => ?_
  have nd := sc_law.nd
  have hu := hr.units
  refine' ZaI [some (.ref a), none, none, none, none, none, none, none, none, none] rfl ?hb ?hg
  case' hb => refine' Zae ?bab ?bac
  case bab => exact (Zcl (i := 1) nd rfl (Or.inr rfl) (ZaK ZjM (hr.mono (by first | decide | lia)) (by rfl) (Zaa (pv 0) Zad)))
  case' bac => refine' Zae ?bad ?bae
  case' bad => refine' Zf9 (i := 2) (LN := ["k"]) (FN := ["bag"]) (fr := [1]) ?baf ?bag ?bah ?bai ?baj ?bak ?bal ?bam ?ban
  case baf => exact rfl
  case bag => exact nd
  case bah => exact rfl
  case bai => exact rfl
  case baj => exact (ZcZ (by rfl))
  case bak => exact (ZbQ rfl B.b_range (Zah Zab Zad))
  case' bal => intro cl C fp pins s H
  case bal => exact (ZaG (i := 0) (show ((["k"] : List Str) ++ (["bag"] : List Str)).Nodup by decide +kernel) rfl (Or.inl rfl))
  case' bam => intro cl C fp pins s H
  case bam => exact ZbH
  case' ban => intro cl C fp pins s H
  case ban => exact (ZaK ZhN (hr.mono (by first | decide | lia)) (by rfl) (Zaa (pv 1) Zad))
  case' bae => refine' Zae ?bao ?bap
  case bao => exact (Zcl (i := 3) nd rfl (Or.inl rfl) (ZaK Zfj (hr.mono (by first | decide | lia)) (by rfl) (Zaa (pv 1) Zad)))
  case' bap => refine' Zae ?baq ?bar
  case' baq => refine' ZcA ?bas ?bat ?bau ?bav ?baw
  case bas => exact PassesOwn.never
  case bat => exact rfl
  case bau => exact (Zbh (K := K) rfl (pv 2))
  case bav => exact (ZaG (i := 4) nd rfl (Or.inl rfl))
  case' baw => refine' Zaf ?bax
  case bax => exact (Zcl (i := 3) nd rfl (Or.inl rfl) (ZaK ZhO (hr.mono (by first | decide | lia)) (by rfl) (Zaa (pv 3) (Zaa (pv 4) Zad))))
  case' bar => refine' Zae ?bay ?baz
  case' bay => refine' ZaF ?bba ?bbb ?bbc
  case bba => exact (Zal Zhw (ZaK Cformed (hr.mono (by first | decide | lia)) (by rfl) (Zaa (pv 3) Zad)) Zb9 (Zar _))
  case bbb => exact (Zaf (Zan Zb9))
  case bbc => exact Zam
  case' baz => refine' Zae ?bbd ?bbe
  case' bbd => refine' ZcA ?bbf ?bbg ?bbh ?bbi ?bbj
  case bbf => exact PassesOwn.never
  case bbg => exact rfl
  case bbh => exact (Zbh (K := K) rfl (pv 3))
  case' bbi => refine' ZcO (K := K) (n := 3) ?bbk ?bbl ?bbm
  case bbk => exact rfl
  case bbl => exact rfl
  case' bbm => refine' Zbf ?bbn ?bbo
  case bbn => exact (ZaG (i := 5) nd rfl (Or.inl rfl))
  case bbo => exact (Zbf (ZaG (i := 6) nd rfl (Or.inl rfl)) (Zbf (ZaG (i := 7) nd rfl (Or.inl rfl)) Zds))
  case' bbj => refine' Zaf ?bbp
  case' bbp => refine' ZcA ?bbq ?bbr ?bbs ?bbt ?bbu
  case bbq => exact PassesOwn.never
  case bbr => exact rfl
  case bbs => exact (ZbQ rfl B.b_range (ZaB (Zai (Zbt (K := K) rfl) (by rfl) B.b_len ZaW (Zaa (pv 7) Zad)) Zad))
  case bbt => exact (ZaG (i := 8) nd rfl (Or.inl rfl))
  case' bbu => refine' Zae ?bbv ?bbw
  case bbv => exact (Zcl (i := 9) nd rfl (Or.inl rfl) (ZaK Cnexts (hr.mono (by first | decide | lia)) (by rfl) (Zaa (pv 7) (Zaa (pv 8) Zad))))
  case' bbw => refine' Zaf ?bbx
  case' bbx => refine' ZaF ?bby ?bbz ?bca
  case' bby => refine' PW.pt ?bcb
  case' bcb => refine' Zf8 ?bcc ?bcd
  case' bcc => refine' Zb1 ?bce
  case' bce => refine' Zbm ?bcf
  case' bcf => refine' ZaK ?bcg ?bch ?bci ?bcj
  case bcg => exact ZfY
  case bch => exact (hr.mono (by first | decide | lia))
  case bci => exact (by rfl)
  case bcj => exact (Zaa (pv 9) (ZaB (Zai (Zbt (K := K) rfl) (by rfl) B.b_len ZaW (Zaa (pv 7) Zad)) Zad))
  case' bcd => refine' Zfp ?bck
  case' bck => refine' Zal ?bcl ?bcm ?bcn ?bco
  case bcl => exact Ze0
  case bcm => exact (Zcm (k_eqE (K := K) rfl hu) (pv 9) (Za9 Zad) (Zar _))
  case bcn => exact (Zcm Za1 (Zao (k_ix (K := K) rfl) (Zao (k_ix (K := K) rfl) (pv 7) (pv 8) (fun _ _ => rfl)) Zab (fun _ _ => rfl)) Zaw (Zar _))
  case bco => exact (Zar _)
  case bbz => exact (Zaf (Zan Zb9))
  case bca => exact Zam
  case' bbe => refine' Zaf ?bcp
  case' bcp => refine' Zan ?bcq
  case' bcq => refine' ZaK ?bcr ?bcs ?bct ?bcu
  case bcr => exact Zc3
  case bcs => exact (hr.mono (by first | decide | lia))
  case bct => exact (by rfl)
  case' bcu => refine' ZaB ?bcv ?bcw
  case' bcv => refine' ZaK ?bcx ?bcy ?bcz ?bda
  case bcx => exact Cread
  case bcy => exact (hr.mono (by first | decide | lia))
  case bcz => exact (by rfl)
  case bda => exact (ZaB (ZaK Cshown (hr.mono (by first | decide | lia)) (by rfl) (Zaa (pv 3) Zad)) Zad)
  case bcw => exact (Zaa (pv 3) Zad)
  walk_at "rd"
  refine use1 ⟨a, ns, rfl, hS, hlen, fun b l H1 _ _ B1 => ?_⟩
  walk_at "rd"
  refine Zdh (by lia) (by lia) ?_
  refine Zfc (ZcM (by lia)) (fun j ys σ Hy => An5 (∃ x1, σ = [x1, some (.ref b)]) (ys.length = j) (∀ y ∈ ys, PickV Hy b y) (BagAt Hy b l) (BSame b H1 Hy)) ⟨⟨none, rfl⟩, rfl, by simp, B1, BSame.refl _ _⟩ ?_ ?_
  · rintro j ys σ Hy hj hle hlt ⟨⟨x1, rfl⟩, hz, hb, By, bY⟩
    walk_at "rd"
    refine use1 ⟨b, l, rfl, By, fun q p0 p1 p2 p3 p4 nm wd H2 pk nb nl B2 b2 => ?_⟩
    refine ⟨hlt, by simpa using hle, ⟨_, rfl⟩, by simp [hz], fun y hy => ?_, B2, bY.trans b2⟩
    rcases List.mem_append.mp hy with hy | hy
    · exact (hb y hy).bs b2
    · rw [List.mem_singleton] at hy
      exact ⟨q, p0, p1, p2, p3, p4, nm, wd, hy, nb, pk⟩
  rintro ys σ Hy hyl ⟨⟨x1, rfl⟩, hz, hb, By, bY⟩ pk hpk
  have npk := By.ne hpk
  have s2 := Same.new (o := .lst ys) hpk
  have e2 : upd Hy pk (.lst ys) pk = some (.lst ys) := Zac
  generalize upd Hy pk (.lst ys) = H2 at s2 e2
  have B2 := By.mono s2
  have hb2 : ∀ y ∈ ys, PickV H2 b y := fun y hy => (hb y hy).mono s2
  walk_at "rd"
  refine use1 ⟨b, l, rfl, B2, fun sg ds q vs H3 PO hq nqb nql hq3 D3 B3 b3 => ?_⟩
  have e3 := b3 _ _ (Ne.symm npk.1) e2
  have hb3 : ∀ y ∈ ys, PickV H3 b y := fun y hy => (hb2 y hy).bs b3
  have D3 := D3.free
  have hd : ds.length <= 6 := by
    have := PO.sgs.few
    rw [<- PO.heads, List.length_map] at this
    exact this
  have PB := progB PO
  have PD := pgB_D PB (by lia) (by lia) (by lia)
  walk_at "rd"
  refine Zct (SqL.of e3) ?_
  refine Zdi (xs := ys) (fun i σ Hx => Ex4 fun c4 q vs ds => An6 (σ = [some (.ref a), some (.ref b), some (.ref pk), some (.ref q), c4, none, none, none, none, none]) (Hx q = some (.lst vs)) (DefsAt [] Hx ds vs) (PgB (mAt i) (30 + 400 * i) ds) (ds.length <= 400) (Same H3 Hx)) ⟨none, q, vs, ds, rfl, hq3, D3, PB, by lia, Same.refl _⟩ (fun i σ Hx _ z_ => by obtain ⟨_, _, _, _, _, _, _, _, _, sx⟩ := z_; exact SqL.of (sx _ _ e3)) ?_ ?_
  · rintro i x σ Hx hx ⟨c4, q, vs, ds, rfl, hqx, Dx, Px, lx, sx⟩
    obtain ⟨bb, p0, p1, p2, p3, p4, nm, wd, rfl, nb, pk⟩ := hb3 x (List.mem_of_getElem? hx)
    have hi : i < 2 := by
      have := (List.getElem?_eq_some_iff.mp hx).1
      lia
    have hm : mAt i <= 31 /\ 10 <= mAt i /\ mAt (i + 1) = 2 * mAt i + 11 := by
      match i, hi with
      | 0, _ => decide
      | 1, _ => decide
    walk_at "rd"
    refine use2 ⟨mAt i, 30 + 400 * i, q, vs, ds, bb, p0, p1, p2, p3, p4, nm, wd, rfl, hqx, Dx, Px, by lia, by lia, by lia, by lia, rfl, pk.mono sx, fun q6 ws es H6 e6 De Pe le s6 => ?_⟩
    refine ⟨_, q6, ws, es, rfl, e6, De, ?_, by lia, sx.trans s6⟩
    rw [hm.2.2]
    exact Pe
  · rintro σ Hx ⟨c4, q, vs, ds, rfl, hqx, Dx, Px, lx, sx⟩
    have PDx : PgD ds := pgB_D Px (by rw [hz]; decide) (by lia) (by lia)
    walk_at "rd"
    refine use1 ⟨q, vs, ds, rfl, hqx, Dx, PDx, fun H7 s7 => ?_⟩
    walk_at "rd"
    refine Zis ?_
    walk_at "rd"
    cases hf : Zdx ds with
    | false =>
      rw [if_pos (show (false != true) = true by decide)]
      walk_at "rd"
      exact k _
    | true =>
      rw [if_neg (show ¬ (true != true) = true by decide)]
      have PT := ZkJ hf Px
      obtain ⟨_, _, hdf⟩ := ZeI hf
      have hq7 := s7 _ _ hqx
      have D7 := Dx.mono s7
      have hvl := D7.length
      walk_at "rd"
      refine Zct (SqL.of hq7) ?_
      refine Zdi (xs := vs) (fun i σ Hx => (∃ x5 x6 x7 x8 x9, σ = [some (.ref a), some (.ref b), some (.ref pk), some (.ref q), c4, x5, x6, x7, x8, x9]) /\ Same H7 Hx) ⟨⟨none, none, none, none, none, rfl⟩, Same.refl _⟩ (fun i σ Hx _ ⟨_, sx⟩ => SqL.of (sx _ _ hq7)) ?_ ?_
      · rintro i x σ Hy hx ⟨⟨x5, x6, x7, x8, x9, rfl⟩, sy⟩
        obtain ⟨d, ed, t, q2, ys2, rfl, hat, hq2, _, ry⟩ := D7.get hx
        have hmem := List.mem_of_getElem? ed
        obtain ⟨_, hrl, hdd⟩ := hdf d hmem
        have hyl := ry.length
        rw [List.length_map] at hyl
        walk_at "rd"
        refine Zdo (sy _ _ hat) rfl ?_
        walk_at "rd"
        refine ZaO (SqL.of (sy _ _ hq2)) ?_
        walk_at "rd"
        refine Zdh (by lia) (by lia) ?_
        refine Zcu (n := (ys2.length : Int).toNat) (fun j σ Hz => (∃ x8 x9, σ = [some (.ref a), some (.ref b), some (.ref pk), some (.ref q), c4, some (.int d.1), some (.int d.2.1), some (.ref q2), x8, x9]) /\ Same Hy Hz) ⟨⟨x8, x9, rfl⟩, Same.refl _⟩ ?_ ?_
        · rintro j σ Hz hj ⟨⟨x8, x9, rfl⟩, sz⟩
          have hj' : j < ys2.length := by lia
          obtain ⟨rD, er, rr⟩ := ry.get' (List.getElem?_eq_getElem hj')
          rw [List.getElem?_map] at er
          obtain ⟨r, er2, rfl⟩ := Option.map_eq_some_iff.mp er
          have hfit := (ZdX hdd).1 r (List.mem_of_getElem? er2)
          have syz := sy.trans sz
          have hq2z := syz _ _ hq2
          have rrz := rr.mono syz.ts
          walk_at "rd"
          refine use2 ⟨q2, ys2, j, ys2[j], r, rfl, by rw [show (0 : Int) + (j : Int) = (j : Int) by lia], hq2z, List.getElem?_eq_getElem hj', rrz, row_N hfit, fun ms p H8 hN hm2 hp8 s8 => ?_⟩
          obtain ⟨hrise, hempty⟩ := Zmo hdd er2 hN
          walk_at "rd"
          refine ZaO (SqL.of (s8 _ _ hq2z)) ?_
          walk_at "rd"
          refine use2 ⟨p, ms, (ys2.length : Int), rfl, rfl, hp8, by lia, by rw [<- hyl]; exact hrise, ?_⟩
          walk_at "rd"
          walk_at "mk"; intro pe hpe
          have s9 := Same.new (o := .lst []) hpe
          have e9 : upd H8 pe (.lst []) pe = some (.lst []) := Zac
          generalize upd H8 pe (.lst []) = H9 at s9 e9
          refine Zld (SqL.of (s9 _ _ hp8)) e9 ?_
          walk_at "rd"
          refine Zaj ((s8.trans s9) _ _ hq2z) (v := ys2[j]) (ZaV (n := j) (by lia) (List.getElem?_eq_getElem hj')) ?_
          walk_at "rd"
          refine ZcR (n := 0) (rrz.mono (s8.trans s9).ts) rfl rfl fun u ru => ?_
          obtain rfl : u = .str r.1 := by rwa [Rep] at ru
          walk_at "rd"
          refine ZkE ?_ ?_
          · rw [decide_eq_decide, List.map_eq_nil_iff]
            exact hempty
          walk_at "rd"
          exact ⟨⟨_, _, rfl⟩, (sz.trans s8).trans s9⟩
        · rintro σ Hz ⟨⟨x8, x9, rfl⟩, sz⟩
          exact ⟨⟨_, _, _, _, _, rfl⟩, sy.trans sz⟩
      · rintro σ Hy ⟨⟨x5, x6, x7, x8, x9, rfl⟩, sy⟩
        have hqy := sy _ _ hq7
        have Dy := D7.mono sy
        walk_at "rd"
        refine use1 ⟨q, vs, ds, rfl, hqy, Dy, fun d hd => (PT.df d hd).1, PT.few, fun H8 s8 => ?_⟩
        walk_at "rd"
        refine use1 ⟨Zga ds, ds, rfl, PT.text, Zkm (fun d hd => (PT.df d hd).1.r), Zhu PT.ne (fun d hd => (PT.df d hd).1.r), fun q9 H9 np => ?_⟩
        obtain ⟨us, hq9, D9⟩ := np.at
        have s9 := np.same
        walk_at "rd"
        refine use2 ⟨ZmU hq9 ((s8.trans s9) _ _ hqy) D9 (Dy.mono (s8.trans s9)) PDx (fun d hd r hr => ?_), ?_⟩
        · have h1 := ((Px d hd).2.1 r hr).n
          have h2 : mAt ys.length = 73 := by rw [hz]; rfl
          lia
        exact k _
end
end My
end
end
namespace My
open PySem L2
theorem len_0 {α : Type} {us : List α} (h : us.length = 0) : us = [] := List.eq_nil_of_length_eq_zero h
theorem Zdw {α : Type} {us : List α} (h : us.length = 1) : ∃ a0, us = [a0] := by
 rcases us with _ | ⟨a0, _ | ⟨b, r⟩⟩
 ·simp at h
 ·exact ⟨a0, rfl⟩
 ·simp at h
theorem ZdO {α : Type} {us : List α} (h : us.length = 2) : ∃ a0 a1, us = [a0, a1] := by
 rcases us with _ | ⟨a0, _ | ⟨a1, _ | ⟨b, r⟩⟩⟩
 ·simp at h
 ·simp at h
 ·exact ⟨a0, a1, rfl⟩
 ·simp at h
theorem Zmv {α : Type} {us : List α} (h : us.length = 3) : ∃ a0 a1 a2, us = [a0, a1, a2] := by
 rcases us with _ | ⟨a0, _ | ⟨a1, _ | ⟨a2, _ | ⟨b, r⟩⟩⟩⟩
 ·simp at h
 ·simp at h
 ·simp at h
 ·exact ⟨a0, a1, a2, rfl⟩
 ·simp at h
theorem Zmu {α : Type} {us : List α} (h : us.length = 4) : ∃ a0 a1 a2 a3, us = [a0, a1, a2, a3] := by
 rcases us with _ | ⟨a0, _ | ⟨a1, _ | ⟨a2, _ | ⟨a3, _ | ⟨b, r⟩⟩⟩⟩⟩
 ·simp at h
 ·simp at h
 ·simp at h
 ·simp at h
 ·exact ⟨a0, a1, a2, a3, rfl⟩
 ·simp at h
theorem len_5 {α : Type} {us : List α} (h : us.length = 5) : ∃ a0 a1 a2 a3 a4, us = [a0, a1, a2, a3, a4] := by
 rcases us with _ | ⟨a0, _ | ⟨a1, _ | ⟨a2, _ | ⟨a3, _ | ⟨a4, _ | ⟨b, r⟩⟩⟩⟩⟩⟩
 ·simp at h
 ·simp at h
 ·simp at h
 ·simp at h
 ·simp at h
 ·exact ⟨a0, a1, a2, a3, a4, rfl⟩
 ·simp at h
theorem all_mk {l : PySem.W.OpenLaw} {w : World} {K : PySem.W.Frag} {h : Heap} {mg : Str -> Option Value} {fa : Addr} (X : K.In h) (G : h.Ns mainGlobals mg) (hfa : mg "law" = some (.ref fa))
  {f0 : Addr} {od0 an0 : Option Addr} {sl0 : Array (Option Value)} {oc0 kV0 dc0 pm0 cd0 ct0 : Value}
  {f1 : Addr} {od1 an1 : Option Addr} {sl1 : Array (Option Value)} {oc1 kV1 dc1 pm1 cd1 ct1 : Value}
  {f2 : Addr} {od2 an2 : Option Addr} {sl2 : Array (Option Value)} {oc2 kV2 dc2 pm2 cd2 ct2 : Value}
  {f3 : Addr} {od3 an3 : Option Addr} {sl3 : Array (Option Value)} {oc3 kV3 dc3 pm3 cd3 ct3 : Value}
  {f4 : Addr} {od4 an4 : Option Addr} {sl4 : Array (Option Value)} {oc4 kV4 dc4 pm4 cd4 ct4 : Value}
  {f5 : Addr} {od5 an5 : Option Addr} {sl5 : Array (Option Value)} {oc5 kV5 dc5 pm5 cd5 ct5 : Value}
  {f6 : Addr} {od6 an6 : Option Addr} {sl6 : Array (Option Value)} {oc6 kV6 dc6 pm6 cd6 ct6 : Value}
  {f7 : Addr} {od7 an7 : Option Addr} {sl7 : Array (Option Value)} {oc7 kV7 dc7 pm7 cd7 ct7 : Value}
  {f8 : Addr} {od8 an8 : Option Addr} {sl8 : Array (Option Value)} {oc8 kV8 dc8 pm8 cd8 ct8 : Value}
  {f9 : Addr} {od9 an9 : Option Addr} {sl9 : Array (Option Value)} {oc9 kV9 dc9 pm9 cd9 ct9 : Value}
  {f10 : Addr} {od10 an10 : Option Addr} {sl10 : Array (Option Value)} {oc10 kV10 dc10 pm10 cd10 ct10 : Value}
  {f11 : Addr} {od11 an11 : Option Addr} {sl11 : Array (Option Value)} {oc11 kV11 dc11 pm11 cd11 ct11 : Value}
  {f12 : Addr} {od12 an12 : Option Addr} {sl12 : Array (Option Value)} {oc12 kV12 dc12 pm12 cd12 ct12 : Value}
  {f13 : Addr} {od13 an13 : Option Addr} {sl13 : Array (Option Value)} {oc13 kV13 dc13 pm13 cd13 ct13 : Value}
  {f14 : Addr} {od14 an14 : Option Addr} {sl14 : Array (Option Value)} {oc14 kV14 dc14 pm14 cd14 ct14 : Value}
  {f15 : Addr} {od15 an15 : Option Addr} {sl15 : Array (Option Value)} {oc15 kV15 dc15 pm15 cd15 ct15 : Value}
  {f16 : Addr} {od16 an16 : Option Addr} {sl16 : Array (Option Value)} {oc16 kV16 dc16 pm16 cd16 ct16 : Value}
  {f17 : Addr} {od17 an17 : Option Addr} {sl17 : Array (Option Value)} {oc17 kV17 dc17 pm17 cd17 ct17 : Value}
  {f18 : Addr} {od18 an18 : Option Addr} {sl18 : Array (Option Value)} {oc18 kV18 dc18 pm18 cd18 ct18 : Value}
  {f19 : Addr} {od19 an19 : Option Addr} {sl19 : Array (Option Value)} {oc19 kV19 dc19 pm19 cd19 ct19 : Value}
  {f20 : Addr} {od20 an20 : Option Addr} {sl20 : Array (Option Value)} {oc20 kV20 dc20 pm20 cd20 ct20 : Value}
  {f21 : Addr} {od21 an21 : Option Addr} {sl21 : Array (Option Value)} {oc21 kV21 dc21 pm21 cd21 ct21 : Value}
  {f22 : Addr} {od22 an22 : Option Addr} {sl22 : Array (Option Value)} {oc22 kV22 dc22 pm22 cd22 ct22 : Value}
  {f23 : Addr} {od23 an23 : Option Addr} {sl23 : Array (Option Value)} {oc23 kV23 dc23 pm23 cd23 ct23 : Value}
  {f24 : Addr} {od24 an24 : Option Addr} {sl24 : Array (Option Value)} {oc24 kV24 dc24 pm24 cd24 ct24 : Value}
  {f25 : Addr} {od25 an25 : Option Addr} {sl25 : Array (Option Value)} {oc25 kV25 dc25 pm25 cd25 ct25 : Value}
  {f26 : Addr} {od26 an26 : Option Addr} {sl26 : Array (Option Value)} {oc26 kV26 dc26 pm26 cd26 ct26 : Value}
  {f27 : Addr} {od27 an27 : Option Addr} {sl27 : Array (Option Value)} {oc27 kV27 dc27 pm27 cd27 ct27 : Value}
  {f28 : Addr} {od28 an28 : Option Addr} {sl28 : Array (Option Value)} {oc28 kV28 dc28 pm28 cd28 ct28 : Value}
  {f29 : Addr} {od29 an29 : Option Addr} {sl29 : Array (Option Value)} {oc29 kV29 dc29 pm29 cd29 ct29 : Value}
  {f30 : Addr} {od30 an30 : Option Addr} {sl30 : Array (Option Value)} {oc30 kV30 dc30 pm30 cd30 ct30 : Value}
  {f31 : Addr} {od31 an31 : Option Addr} {sl31 : Array (Option Value)} {oc31 kV31 dc31 pm31 cd31 ct31 : Value}
  {f32 : Addr} {od32 an32 : Option Addr} {sl32 : Array (Option Value)} {oc32 kV32 dc32 pm32 cd32 ct32 : Value}
  {f33 : Addr} {od33 an33 : Option Addr} {sl33 : Array (Option Value)} {oc33 kV33 dc33 pm33 cd33 ct33 : Value}
  {f34 : Addr} {od34 an34 : Option Addr} {sl34 : Array (Option Value)} {oc34 kV34 dc34 pm34 cd34 ct34 : Value}
  {t_FIGURES : Tok}
  {t_MOST_BOXES : Tok}
  {t_MOST_DEFS : Tok}
  {t_MOST_FACTOR : Tok}
  {t_MOST_FIGURES : Tok}
  {t_MOST_ROWS : Tok}
  {t_MOST_TAKES : Tok}
  {a_PARTS : Addr} {ep_PARTS : Nat}
  {t_PARTS_0 : Tok} {a_PARTS_0 : Addr} {od_PARTS_0 : Option Addr} {n_PARTS_0 : Nat} {sl_PARTS_0 : Array (Option Value)} {t_PARTS_0_0 t_PARTS_0_1 : Tok}
  {t_PARTS_1 : Tok} {a_PARTS_1 : Addr} {od_PARTS_1 : Option Addr} {n_PARTS_1 : Nat} {sl_PARTS_1 : Array (Option Value)} {t_PARTS_1_0 t_PARTS_1_1 : Tok}
  {t_PARTS_2 : Tok} {a_PARTS_2 : Addr} {od_PARTS_2 : Option Addr} {n_PARTS_2 : Nat} {sl_PARTS_2 : Array (Option Value)} {t_PARTS_2_0 t_PARTS_2_1 t_PARTS_2_2 : Tok}
  {t_PARTS_3 : Tok} {a_PARTS_3 : Addr} {od_PARTS_3 : Option Addr} {n_PARTS_3 : Nat} {sl_PARTS_3 : Array (Option Value)} {t_PARTS_3_0 t_PARTS_3_1 t_PARTS_3_2 : Tok}
  {t_PARTS_4 : Tok} {a_PARTS_4 : Addr} {od_PARTS_4 : Option Addr} {n_PARTS_4 : Nat} {sl_PARTS_4 : Array (Option Value)} {t_PARTS_4_0 t_PARTS_4_1 t_PARTS_4_2 : Tok}
  {t_PARTS_5 : Tok} {a_PARTS_5 : Addr} {od_PARTS_5 : Option Addr} {n_PARTS_5 : Nat} {sl_PARTS_5 : Array (Option Value)} {t_PARTS_5_0 : Tok}
  {t_PARTS_6 : Tok} {a_PARTS_6 : Addr} {od_PARTS_6 : Option Addr} {n_PARTS_6 : Nat} {sl_PARTS_6 : Array (Option Value)} {t_PARTS_6_0 : Tok}
  {t_PARTS_7 : Tok} {a_PARTS_7 : Addr} {od_PARTS_7 : Option Addr} {n_PARTS_7 : Nat} {sl_PARTS_7 : Array (Option Value)} {t_PARTS_7_0 : Tok}
  {t_PARTS_8 : Tok} {a_PARTS_8 : Addr} {od_PARTS_8 : Option Addr} {n_PARTS_8 : Nat} {sl_PARTS_8 : Array (Option Value)} {t_PARTS_8_0 t_PARTS_8_1 : Tok}
  {t_PARTS_9 : Tok} {a_PARTS_9 : Addr} {od_PARTS_9 : Option Addr} {n_PARTS_9 : Nat} {sl_PARTS_9 : Array (Option Value)} {t_PARTS_9_0 t_PARTS_9_1 : Tok}
  {t_PARTS_10 : Tok} {a_PARTS_10 : Addr} {od_PARTS_10 : Option Addr} {n_PARTS_10 : Nat} {sl_PARTS_10 : Array (Option Value)} {t_PARTS_10_0 t_PARTS_10_1 t_PARTS_10_2 : Tok}
  {t_PARTS_11 : Tok} {a_PARTS_11 : Addr} {od_PARTS_11 : Option Addr} {n_PARTS_11 : Nat} {sl_PARTS_11 : Array (Option Value)} {t_PARTS_11_0 : Tok}
  (a0 : PySem.W.nsIn K mainGlobals "is_whole" = some (some (.ref f0))) (l0 : K.lookup f0 = some ⟨oc0, od0, .func (PySem.W.fnOf "is_whole" "is_whole" (ZaD ZbL) (ZaA ZbL) (Zag ZbL) .none kV0 dc0 pm0 an0 cd0 ct0), sl0⟩) (c0 : PySem.W.codeIn K cd0 "is_whole" = true) (k0 : PySem.W.keepIn K (.ref f0) = true)
  (a1 : PySem.W.nsIn K mainGlobals "nexts" = some (some (.ref f1))) (l1 : K.lookup f1 = some ⟨oc1, od1, .func (PySem.W.fnOf "nexts" "nexts" (ZaD ZcE) (ZaA ZcE) (Zag ZcE) .none kV1 dc1 pm1 an1 cd1 ct1), sl1⟩) (c1 : PySem.W.codeIn K cd1 "nexts" = true) (k1 : PySem.W.keepIn K (.ref f1) = true)
  (a2 : PySem.W.nsIn K mainGlobals "formed" = some (some (.ref f2))) (l2 : K.lookup f2 = some ⟨oc2, od2, .func (PySem.W.fnOf "formed" "formed" (ZaD Zcd) (ZaA Zcd) (Zag Zcd) .none kV2 dc2 pm2 an2 cd2 ct2), sl2⟩) (c2 : PySem.W.codeIn K cd2 "formed" = true) (k2 : PySem.W.keepIn K (.ref f2) = true)
  (a3 : PySem.W.nsIn K mainGlobals "head_fits" = some (some (.ref f3))) (l3 : K.lookup f3 = some ⟨oc3, od3, .func (PySem.W.fnOf "head_fits" "head_fits" (ZaD Zby) (ZaA Zby) (Zag Zby) .none kV3 dc3 pm3 an3 cd3 ct3), sl3⟩) (c3 : PySem.W.codeIn K cd3 "head_fits" = true) (k3 : PySem.W.keepIn K (.ref f3) = true)
  (a4 : PySem.W.nsIn K mainGlobals "rows_fit" = some (some (.ref f4))) (l4 : K.lookup f4 = some ⟨oc4, od4, .func (PySem.W.fnOf "rows_fit" "rows_fit" (ZaD ZbI) (ZaA ZbI) (Zag ZbI) .none kV4 dc4 pm4 an4 cd4 ct4), sl4⟩) (c4 : PySem.W.codeIn K cd4 "rows_fit" = true) (k4 : PySem.W.keepIn K (.ref f4) = true)
  (a5 : PySem.W.nsIn K mainGlobals "row_fits" = some (some (.ref f5))) (l5 : K.lookup f5 = some ⟨oc5, od5, .func (PySem.W.fnOf "row_fits" "row_fits" (ZaD ZbJ) (ZaA ZbJ) (Zag ZbJ) .none kV5 dc5 pm5 an5 cd5 ct5), sl5⟩) (c5 : PySem.W.codeIn K cd5 "row_fits" = true) (k5 : PySem.W.keepIn K (.ref f5) = true)
  (a6 : PySem.W.nsIn K mainGlobals "part_fits" = some (some (.ref f6))) (l6 : K.lookup f6 = some ⟨oc6, od6, .func (PySem.W.fnOf "part_fits" "part_fits" (ZaD Zbn) (ZaA Zbn) (Zag Zbn) .none kV6 dc6 pm6 an6 cd6 ct6), sl6⟩) (c6 : PySem.W.codeIn K cd6 "part_fits" = true) (k6 : PySem.W.keepIn K (.ref f6) = true)
  (a7 : PySem.W.nsIn K mainGlobals "shown" = some (some (.ref f7))) (l7 : K.lookup f7 = some ⟨oc7, od7, .func (PySem.W.fnOf "shown" "shown" (ZaD ZcD) (ZaA ZcD) (Zag ZcD) .none kV7 dc7 pm7 an7 cd7 ct7), sl7⟩) (c7 : PySem.W.codeIn K cd7 "shown" = true) (k7 : PySem.W.keepIn K (.ref f7) = true)
  (a8 : PySem.W.nsIn K mainGlobals "shown_def" = some (some (.ref f8))) (l8 : K.lookup f8 = some ⟨oc8, od8, .func (PySem.W.fnOf "shown_def" "shown_def" (ZaD Zbv) (ZaA Zbv) (Zag Zbv) .none kV8 dc8 pm8 an8 cd8 ct8), sl8⟩) (c8 : PySem.W.codeIn K cd8 "shown_def" = true) (k8 : PySem.W.keepIn K (.ref f8) = true)
  (a9 : PySem.W.nsIn K mainGlobals "shown_row" = some (some (.ref f9))) (l9 : K.lookup f9 = some ⟨oc9, od9, .func (PySem.W.fnOf "shown_row" "shown_row" (ZaD Zbu) (ZaA Zbu) (Zag Zbu) .none kV9 dc9 pm9 an9 cd9 ct9), sl9⟩) (c9 : PySem.W.codeIn K cd9 "shown_row" = true) (k9 : PySem.W.keepIn K (.ref f9) = true)
  (a10 : PySem.W.nsIn K mainGlobals "numbers_of" = some (some (.ref f10))) (l10 : K.lookup f10 = some ⟨oc10, od10, .func (PySem.W.fnOf "numbers_of" "numbers_of" (ZaD Zbj) (ZaA Zbj) (Zag Zbj) .none kV10 dc10 pm10 an10 cd10 ct10), sl10⟩) (c10 : PySem.W.codeIn K cd10 "numbers_of" = true) (k10 : PySem.W.keepIn K (.ref f10) = true)
  (a11 : PySem.W.nsIn K mainGlobals "read" = some (some (.ref f11))) (l11 : K.lookup f11 = some ⟨oc11, od11, .func (PySem.W.fnOf "read" "read" (ZaD ZdL) (ZaA ZdL) (Zag ZdL) .none kV11 dc11 pm11 an11 cd11 ct11), sl11⟩) (c11 : PySem.W.codeIn K cd11 "read" = true) (k11 : PySem.W.keepIn K (.ref f11) = true)
  (a12 : PySem.W.nsIn K mainGlobals "read_head" = some (some (.ref f12))) (l12 : K.lookup f12 = some ⟨oc12, od12, .func (PySem.W.fnOf "read_head" "read_head" (ZaD Zbw) (ZaA Zbw) (Zag Zbw) .none kV12 dc12 pm12 an12 cd12 ct12), sl12⟩) (c12 : PySem.W.codeIn K cd12 "read_head" = true) (k12 : PySem.W.keepIn K (.ref f12) = true)
  (a13 : PySem.W.nsIn K mainGlobals "read_row" = some (some (.ref f13))) (l13 : K.lookup f13 = some ⟨oc13, od13, .func (PySem.W.fnOf "read_row" "read_row" (ZaD ZbK) (ZaA ZbK) (Zag ZbK) .none kV13 dc13 pm13 an13 cd13 ct13), sl13⟩) (c13 : PySem.W.codeIn K cd13 "read_row" = true) (k13 : PySem.W.keepIn K (.ref f13) = true)
  (a14 : PySem.W.nsIn K mainGlobals "read_call" = some (some (.ref f14))) (l14 : K.lookup f14 = some ⟨oc14, od14, .func (PySem.W.fnOf "read_call" "read_call" (ZaD Zbx) (ZaA Zbx) (Zag Zbx) .none kV14 dc14 pm14 an14 cd14 ct14), sl14⟩) (c14 : PySem.W.codeIn K cd14 "read_call" = true) (k14 : PySem.W.keepIn K (.ref f14) = true)
  (a15 : PySem.W.nsIn K mainGlobals "read_whole" = some (some (.ref f15))) (l15 : K.lookup f15 = some ⟨oc15, od15, .func (PySem.W.fnOf "read_whole" "read_whole" (ZaD Zbi) (ZaA Zbi) (Zag Zbi) .none kV15 dc15 pm15 an15 cd15 ct15), sl15⟩) (c15 : PySem.W.codeIn K cd15 "read_whole" = true) (k15 : PySem.W.keepIn K (.ref f15) = true)
  (a16 : PySem.W.nsIn K mainGlobals "_law_bag" = some (some (.ref f16))) (l16 : K.lookup f16 = some ⟨oc16, od16, .func (PySem.W.fnOf "_law_bag" "_law_bag" (ZaD ZbN) (ZaA ZbN) (Zag ZbN) .none kV16 dc16 pm16 an16 cd16 ct16), sl16⟩) (c16 : PySem.W.codeIn K cd16 "_law_bag" = true) (k16 : PySem.W.keepIn K (.ref f16) = true)
  (a17 : PySem.W.nsIn K mainGlobals "_law_draw" = some (some (.ref f17))) (l17 : K.lookup f17 = some ⟨oc17, od17, .func (PySem.W.fnOf "_law_draw" "_law_draw" (ZaD ZbC) (ZaA ZbC) (Zag ZbC) .none kV17 dc17 pm17 an17 cd17 ct17), sl17⟩) (c17 : PySem.W.codeIn K cd17 "_law_draw" = true) (k17 : PySem.W.keepIn K (.ref f17) = true)
  (a18 : PySem.W.nsIn K mainGlobals "_law_number" = some (some (.ref f18))) (l18 : K.lookup f18 = some ⟨oc18, od18, .func (PySem.W.fnOf "_law_number" "_law_number" (ZaD Zbc) (ZaA Zbc) (Zag Zbc) .none kV18 dc18 pm18 an18 cd18 ct18), sl18⟩) (c18 : PySem.W.codeIn K cd18 "_law_number" = true) (k18 : PySem.W.keepIn K (.ref f18) = true)
  (a19 : PySem.W.nsIn K mainGlobals "_law_letters" = some (some (.ref f19))) (l19 : K.lookup f19 = some ⟨oc19, od19, .func (PySem.W.fnOf "_law_letters" "_law_letters" (ZaD Za5) (ZaA Za5) (Zag Za5) .none kV19 dc19 pm19 an19 cd19 ct19), sl19⟩) (c19 : PySem.W.codeIn K cd19 "_law_letters" = true) (k19 : PySem.W.keepIn K (.ref f19) = true)
  (a20 : PySem.W.nsIn K mainGlobals "_law_part" = some (some (.ref f20))) (l20 : K.lookup f20 = some ⟨oc20, od20, .func (PySem.W.fnOf "_law_part" "_law_part" (ZaD ZbB) (ZaA ZbB) (Zag ZbB) .none kV20 dc20 pm20 an20 cd20 ct20), sl20⟩) (c20 : PySem.W.codeIn K cd20 "_law_part" = true) (k20 : PySem.W.keepIn K (.ref f20) = true)
  (a21 : PySem.W.nsIn K mainGlobals "_law_row" = some (some (.ref f21))) (l21 : K.lookup f21 = some ⟨oc21, od21, .func (PySem.W.fnOf "_law_row" "_law_row" (ZaD ZbM) (ZaA ZbM) (Zag ZbM) .none kV21 dc21 pm21 an21 cd21 ct21), sl21⟩) (c21 : PySem.W.codeIn K cd21 "_law_row" = true) (k21 : PySem.W.keepIn K (.ref f21) = true)
  (a22 : PySem.W.nsIn K mainGlobals "_law_rows" = some (some (.ref f22))) (l22 : K.lookup f22 = some ⟨oc22, od22, .func (PySem.W.fnOf "_law_rows" "_law_rows" (ZaD Zbz) (ZaA Zbz) (Zag Zbz) .none kV22 dc22 pm22 an22 cd22 ct22), sl22⟩) (c22 : PySem.W.codeIn K cd22 "_law_rows" = true) (k22 : PySem.W.keepIn K (.ref f22) = true)
  (a23 : PySem.W.nsIn K mainGlobals "_law_signs" = some (some (.ref f23))) (l23 : K.lookup f23 = some ⟨oc23, od23, .func (PySem.W.fnOf "_law_signs" "_law_signs" (ZaD Zbk) (ZaA Zbk) (Zag Zbk) .none kV23 dc23 pm23 an23 cd23 ct23), sl23⟩) (c23 : PySem.W.codeIn K cd23 "_law_signs" = true) (k23 : PySem.W.keepIn K (.ref f23) = true)
  (a24 : PySem.W.nsIn K mainGlobals "_law_program" = some (some (.ref f24))) (l24 : K.lookup f24 = some ⟨oc24, od24, .func (PySem.W.fnOf "_law_program" "_law_program" (ZaD Za4) (ZaA Za4) (Zag Za4) .none kV24 dc24 pm24 an24 cd24 ct24), sl24⟩) (c24 : PySem.W.codeIn K cd24 "_law_program" = true) (k24 : PySem.W.keepIn K (.ref f24) = true)
  (a25 : PySem.W.nsIn K mainGlobals "_law_pick" = some (some (.ref f25))) (l25 : K.lookup f25 = some ⟨oc25, od25, .func (PySem.W.fnOf "_law_pick" "_law_pick" (ZaD ZbA) (ZaA ZbA) (Zag ZbA) .none kV25 dc25 pm25 an25 cd25 ct25), sl25⟩) (c25 : PySem.W.codeIn K cd25 "_law_pick" = true) (k25 : PySem.W.keepIn K (.ref f25) = true)
  (a26 : PySem.W.nsIn K mainGlobals "_law_bound" = some (some (.ref f26))) (l26 : K.lookup f26 = some ⟨oc26, od26, .func (PySem.W.fnOf "_law_bound" "_law_bound" (ZaD Zbl) (ZaA Zbl) (Zag Zbl) .none kV26 dc26 pm26 an26 cd26 ct26), sl26⟩) (c26 : PySem.W.codeIn K cd26 "_law_bound" = true) (k26 : PySem.W.keepIn K (.ref f26) = true)
  (a27 : PySem.W.nsIn K mainGlobals "_law_bent_args" = some (some (.ref f27))) (l27 : K.lookup f27 = some ⟨oc27, od27, .func (PySem.W.fnOf "_law_bent_args" "_law_bent_args" (ZaD ZaT) (ZaA ZaT) (Zag ZaT) .none kV27 dc27 pm27 an27 cd27 ct27), sl27⟩) (c27 : PySem.W.codeIn K cd27 "_law_bent_args" = true) (k27 : PySem.W.keepIn K (.ref f27) = true)
  (a28 : PySem.W.nsIn K mainGlobals "_law_bent_row" = some (some (.ref f28))) (l28 : K.lookup f28 = some ⟨oc28, od28, .func (PySem.W.fnOf "_law_bent_row" "_law_bent_row" (ZaD ZaX) (ZaA ZaX) (Zag ZaX) .none kV28 dc28 pm28 an28 cd28 ct28), sl28⟩) (c28 : PySem.W.codeIn K cd28 "_law_bent_row" = true) (k28 : PySem.W.keepIn K (.ref f28) = true)
  (a29 : PySem.W.nsIn K mainGlobals "_law_bent_rows" = some (some (.ref f29))) (l29 : K.lookup f29 = some ⟨oc29, od29, .func (PySem.W.fnOf "_law_bent_rows" "_law_bent_rows" (ZaD ZaR) (ZaA ZaR) (Zag ZaR) .none kV29 dc29 pm29 an29 cd29 ct29), sl29⟩) (c29 : PySem.W.codeIn K cd29 "_law_bent_rows" = true) (k29 : PySem.W.keepIn K (.ref f29) = true)
  (a30 : PySem.W.nsIn K mainGlobals "_law_bent_defs" = some (some (.ref f30))) (l30 : K.lookup f30 = some ⟨oc30, od30, .func (PySem.W.fnOf "_law_bent_defs" "_law_bent_defs" (ZaD ZaS) (ZaA ZaS) (Zag ZaS) .none kV30 dc30 pm30 an30 cd30 ct30), sl30⟩) (c30 : PySem.W.codeIn K cd30 "_law_bent_defs" = true) (k30 : PySem.W.keepIn K (.ref f30) = true)
  (a31 : PySem.W.nsIn K mainGlobals "_law_bent" = some (some (.ref f31))) (l31 : K.lookup f31 = some ⟨oc31, od31, .func (PySem.W.fnOf "_law_bent" "_law_bent" (ZaD ZbD) (ZaA ZbD) (Zag ZbD) .none kV31 dc31 pm31 an31 cd31 ct31), sl31⟩) (c31 : PySem.W.codeIn K cd31 "_law_bent" = true) (k31 : PySem.W.keepIn K (.ref f31) = true)
  (a32 : PySem.W.nsIn K mainGlobals "_law_alike" = some (some (.ref f32))) (l32 : K.lookup f32 = some ⟨oc32, od32, .func (PySem.W.fnOf "_law_alike" "_law_alike" (ZaD Zbd) (ZaA Zbd) (Zag Zbd) .none kV32 dc32 pm32 an32 cd32 ct32), sl32⟩) (c32 : PySem.W.codeIn K cd32 "_law_alike" = true) (k32 : PySem.W.keepIn K (.ref f32) = true)
  (a33 : PySem.W.nsIn K mainGlobals "_law_rising" = some (some (.ref f33))) (l33 : K.lookup f33 = some ⟨oc33, od33, .func (PySem.W.fnOf "_law_rising" "_law_rising" (ZaD Zbb) (ZaA Zbb) (Zag Zbb) .none kV33 dc33 pm33 an33 cd33 ct33), sl33⟩) (c33 : PySem.W.codeIn K cd33 "_law_rising" = true) (k33 : PySem.W.keepIn K (.ref f33) = true)
  (a34 : PySem.W.nsIn K mainGlobals "law" = some (some (.ref f34))) (l34 : K.lookup f34 = some ⟨oc34, od34, .func (PySem.W.fnOf "law" "law" (ZaD ZeW) (ZaA ZeW) (Zag ZeW) .none kV34 dc34 pm34 an34 cd34 ct34), sl34⟩) (c34 : PySem.W.codeIn K cd34 "law" = true) (k34 : PySem.W.keepIn K (.ref f34) = true)
  (g_FIGURES : PySem.W.nsIn K mainGlobals "FIGURES" = some (some (.str "0123456789" t_FIGURES)))
  (g_MOST_BOXES : PySem.W.nsIn K mainGlobals "MOST_BOXES" = some (some (.int 8 t_MOST_BOXES)))
  (g_MOST_DEFS : PySem.W.nsIn K mainGlobals "MOST_DEFS" = some (some (.int 6 t_MOST_DEFS)))
  (g_MOST_FACTOR : PySem.W.nsIn K mainGlobals "MOST_FACTOR" = some (some (.int 99 t_MOST_FACTOR)))
  (g_MOST_FIGURES : PySem.W.nsIn K mainGlobals "MOST_FIGURES" = some (some (.int 60 t_MOST_FIGURES)))
  (g_MOST_ROWS : PySem.W.nsIn K mainGlobals "MOST_ROWS" = some (some (.int 30 t_MOST_ROWS)))
  (g_MOST_TAKES : PySem.W.nsIn K mainGlobals "MOST_TAKES" = some (some (.int 4 t_MOST_TAKES)))
  (g_PARTS : PySem.W.nsIn K mainGlobals "PARTS" = some (some (.ref a_PARTS))) (h_PARTS : K.lookup a_PARTS = some { cls := .type "dict", data := .dict #[⟨hashStr w "put", .str "put" t_PARTS_0, .ref a_PARTS_0⟩, ⟨hashStr w "copy", .str "copy" t_PARTS_1, .ref a_PARTS_1⟩, ⟨hashStr w "plus", .str "plus" t_PARTS_2, .ref a_PARTS_2⟩, ⟨hashStr w "less", .str "less" t_PARTS_3, .ref a_PARTS_3⟩, ⟨hashStr w "times", .str "times" t_PARTS_4, .ref a_PARTS_4⟩, ⟨hashStr w "take", .str "take" t_PARTS_5, .ref a_PARTS_5⟩, ⟨hashStr w "tell", .str "tell" t_PARTS_6, .ref a_PARTS_6⟩, ⟨hashStr w "jump", .str "jump" t_PARTS_7, .ref a_PARTS_7⟩, ⟨hashStr w "zero", .str "zero" t_PARTS_8, .ref a_PARTS_8⟩, ⟨hashStr w "below", .str "below" t_PARTS_9, .ref a_PARTS_9⟩, ⟨hashStr w "call", .str "call" t_PARTS_10, .ref a_PARTS_10⟩, ⟨hashStr w "back", .str "back" t_PARTS_11, .ref a_PARTS_11⟩] ep_PARTS }) (s_PARTS : (a_PARTS == sysModules) = false)
  (h_PARTS_0 : K.lookup a_PARTS_0 = some ⟨.type "tuple", od_PARTS_0, .seq #[.str "box" t_PARTS_0_0, .str "number" t_PARTS_0_1] n_PARTS_0, sl_PARTS_0⟩)
  (h_PARTS_1 : K.lookup a_PARTS_1 = some ⟨.type "tuple", od_PARTS_1, .seq #[.str "box" t_PARTS_1_0, .str "box" t_PARTS_1_1] n_PARTS_1, sl_PARTS_1⟩)
  (h_PARTS_2 : K.lookup a_PARTS_2 = some ⟨.type "tuple", od_PARTS_2, .seq #[.str "box" t_PARTS_2_0, .str "box" t_PARTS_2_1, .str "box" t_PARTS_2_2] n_PARTS_2, sl_PARTS_2⟩)
  (h_PARTS_3 : K.lookup a_PARTS_3 = some ⟨.type "tuple", od_PARTS_3, .seq #[.str "box" t_PARTS_3_0, .str "box" t_PARTS_3_1, .str "box" t_PARTS_3_2] n_PARTS_3, sl_PARTS_3⟩)
  (h_PARTS_4 : K.lookup a_PARTS_4 = some ⟨.type "tuple", od_PARTS_4, .seq #[.str "box" t_PARTS_4_0, .str "box" t_PARTS_4_1, .str "factor" t_PARTS_4_2] n_PARTS_4, sl_PARTS_4⟩)
  (h_PARTS_5 : K.lookup a_PARTS_5 = some ⟨.type "tuple", od_PARTS_5, .seq #[.str "box" t_PARTS_5_0] n_PARTS_5, sl_PARTS_5⟩)
  (h_PARTS_6 : K.lookup a_PARTS_6 = some ⟨.type "tuple", od_PARTS_6, .seq #[.str "box" t_PARTS_6_0] n_PARTS_6, sl_PARTS_6⟩)
  (h_PARTS_7 : K.lookup a_PARTS_7 = some ⟨.type "tuple", od_PARTS_7, .seq #[.str "row" t_PARTS_7_0] n_PARTS_7, sl_PARTS_7⟩)
  (h_PARTS_8 : K.lookup a_PARTS_8 = some ⟨.type "tuple", od_PARTS_8, .seq #[.str "box" t_PARTS_8_0, .str "row" t_PARTS_8_1] n_PARTS_8, sl_PARTS_8⟩)
  (h_PARTS_9 : K.lookup a_PARTS_9 = some ⟨.type "tuple", od_PARTS_9, .seq #[.str "box" t_PARTS_9_0, .str "row" t_PARTS_9_1] n_PARTS_9, sl_PARTS_9⟩)
  (h_PARTS_10 : K.lookup a_PARTS_10 = some ⟨.type "tuple", od_PARTS_10, .seq #[.str "box" t_PARTS_10_0, .str "def" t_PARTS_10_1, .str "boxes" t_PARTS_10_2] n_PARTS_10, sl_PARTS_10⟩)
  (h_PARTS_11 : K.lookup a_PARTS_11 = some ⟨.type "tuple", od_PARTS_11, .seq #[.str "box" t_PARTS_11_0] n_PARTS_11, sl_PARTS_11⟩)
  (z_abs : PySem.W.nsIn K mainGlobals "abs" = some none)
  (z_all : PySem.W.nsIn K mainGlobals "all" = some none)
  (z_bool : PySem.W.nsIn K mainGlobals "bool" = some none)
  (z_int : PySem.W.nsIn K mainGlobals "int" = some none)
  (z_isinstance : PySem.W.nsIn K mainGlobals "isinstance" = some none)
  (z_len : PySem.W.nsIn K mainGlobals "len" = some none)
  (z_list : PySem.W.nsIn K mainGlobals "list" = some none)
  (z_max : PySem.W.nsIn K mainGlobals "max" = some none)
  (z_min : PySem.W.nsIn K mainGlobals "min" = some none)
  (z_range : PySem.W.nsIn K mainGlobals "range" = some none)
  (z_set : PySem.W.nsIn K mainGlobals "set" = some none)
  (z_sorted : PySem.W.nsIn K mainGlobals "sorted" = some none)
  (z_str : PySem.W.nsIn K mainGlobals "str" = some none)
  (z_tuple : PySem.W.nsIn K mainGlobals "tuple" = some none)
  (z_zip : PySem.W.nsIn K mainGlobals "zip" = some none)
  : ∃ fd : FuncData, (∀ (s : Shared) (v : Value), BindsTo s fd ⟨[v], []⟩ [("script", v)]) /\ ∀ base : Heap, K.In base -> base.Ns mainGlobals mg -> FnOk l.prog w K mg base CX0 12 fa fd ["script"] (Zie K) := by
 have B : Blt mg := ⟨PySem.W.mg_none_of X G z_abs, PySem.W.mg_none_of X G z_all, PySem.W.mg_none_of X G z_bool, PySem.W.mg_none_of X G z_int, PySem.W.mg_none_of X G z_isinstance, PySem.W.mg_none_of X G z_len, PySem.W.mg_none_of X G z_list, PySem.W.mg_none_of X G z_max, PySem.W.mg_none_of X G z_min, PySem.W.mg_none_of X G z_range, PySem.W.mg_none_of X G z_set, PySem.W.mg_none_of X G z_sorted, PySem.W.mg_none_of X G z_str, PySem.W.mg_none_of X G z_tuple, PySem.W.mg_none_of X G z_zip⟩
 have GG : Glb K w mg := ⟨⟨_, PySem.W.mg_of X G g_FIGURES⟩, ⟨_, PySem.W.mg_of X G g_MOST_BOXES⟩, ⟨_, PySem.W.mg_of X G g_MOST_DEFS⟩, ⟨_, PySem.W.mg_of X G g_MOST_FACTOR⟩, ⟨_, PySem.W.mg_of X G g_MOST_FIGURES⟩, ⟨_, PySem.W.mg_of X G g_MOST_ROWS⟩, ⟨_, PySem.W.mg_of X G g_MOST_TAKES⟩, ⟨_, PySem.W.mg_of X G g_PARTS, s_PARTS, by decide +kernel, [("put", t_PARTS_0, a_PARTS_0), ("copy", t_PARTS_1, a_PARTS_1), ("plus", t_PARTS_2, a_PARTS_2), ("less", t_PARTS_3, a_PARTS_3), ("times", t_PARTS_4, a_PARTS_4), ("take", t_PARTS_5, a_PARTS_5), ("tell", t_PARTS_6, a_PARTS_6), ("jump", t_PARTS_7, a_PARTS_7), ("zero", t_PARTS_8, a_PARTS_8), ("below", t_PARTS_9, a_PARTS_9), ("call", t_PARTS_10, a_PARTS_10), ("back", t_PARTS_11, a_PARTS_11)], ep_PARTS, h_PARTS, .cons ⟨rfl, ⟨_, _, _, h_PARTS_0, rfl, rfl, Zdv rfl, .cons ⟨_, rfl⟩ (.cons ⟨_, rfl⟩ (.nil))⟩⟩ (.cons ⟨rfl, ⟨_, _, _, h_PARTS_1, rfl, rfl, Zdv rfl, .cons ⟨_, rfl⟩ (.cons ⟨_, rfl⟩ (.nil))⟩⟩ (.cons ⟨rfl, ⟨_, _, _, h_PARTS_2, rfl, rfl, Zdv rfl, .cons ⟨_, rfl⟩ (.cons ⟨_, rfl⟩ (.cons ⟨_, rfl⟩ (.nil)))⟩⟩ (.cons ⟨rfl, ⟨_, _, _, h_PARTS_3, rfl, rfl, Zdv rfl, .cons ⟨_, rfl⟩ (.cons ⟨_, rfl⟩ (.cons ⟨_, rfl⟩ (.nil)))⟩⟩ (.cons ⟨rfl, ⟨_, _, _, h_PARTS_4, rfl, rfl, Zdv rfl, .cons ⟨_, rfl⟩ (.cons ⟨_, rfl⟩ (.cons ⟨_, rfl⟩ (.nil)))⟩⟩ (.cons ⟨rfl, ⟨_, _, _, h_PARTS_5, rfl, rfl, Zdv rfl, .cons ⟨_, rfl⟩ (.nil)⟩⟩ (.cons ⟨rfl, ⟨_, _, _, h_PARTS_6, rfl, rfl, Zdv rfl, .cons ⟨_, rfl⟩ (.nil)⟩⟩ (.cons ⟨rfl, ⟨_, _, _, h_PARTS_7, rfl, rfl, Zdv rfl, .cons ⟨_, rfl⟩ (.nil)⟩⟩ (.cons ⟨rfl, ⟨_, _, _, h_PARTS_8, rfl, rfl, Zdv rfl, .cons ⟨_, rfl⟩ (.cons ⟨_, rfl⟩ (.nil))⟩⟩ (.cons ⟨rfl, ⟨_, _, _, h_PARTS_9, rfl, rfl, Zdv rfl, .cons ⟨_, rfl⟩ (.cons ⟨_, rfl⟩ (.nil))⟩⟩ (.cons ⟨rfl, ⟨_, _, _, h_PARTS_10, rfl, rfl, Zdv rfl, .cons ⟨_, rfl⟩ (.cons ⟨_, rfl⟩ (.cons ⟨_, rfl⟩ (.nil)))⟩⟩ (.cons ⟨rfl, ⟨_, _, _, h_PARTS_11, rfl, rfl, Zdv rfl, .cons ⟨_, rfl⟩ (.nil)⟩⟩ (.nil))))))))))))⟩⟩
 have F0 := ZaY (st := ZbL) l0 c0 k0
 have T_is_whole : TopFn K mg "is_whole" ZbL ["thing"] := ⟨_, _, F0, PySem.W.mg_of X G a0, F0.binds (ps := ["thing"]) fun _ _ _ _ _ _ us hl => by obtain ⟨_, rfl⟩ := Zdw hl; rfl⟩
 have F1 := ZaY (st := ZcE) l1 c1 k1
 have T_nexts : TopFn K mg "nexts" ZcE ["rows", "at"] := ⟨_, _, F1, PySem.W.mg_of X G a1, F1.binds (ps := ["rows", "at"]) fun _ _ _ _ _ _ us hl => by obtain ⟨_, _, rfl⟩ := ZdO hl; rfl⟩
 have F2 := ZaY (st := Zcd) l2 c2 k2
 have T_formed : TopFn K mg "formed" Zcd ["program"] := ⟨_, _, F2, PySem.W.mg_of X G a2, F2.binds (ps := ["program"]) fun _ _ _ _ _ _ us hl => by obtain ⟨_, rfl⟩ := Zdw hl; rfl⟩
 have F3 := ZaY (st := Zby) l3 c3 k3
 have T_head_fits : TopFn K mg "head_fits" Zby ["one"] := ⟨_, _, F3, PySem.W.mg_of X G a3, F3.binds (ps := ["one"]) fun _ _ _ _ _ _ us hl => by obtain ⟨_, rfl⟩ := Zdw hl; rfl⟩
 have F4 := ZaY (st := ZbI) l4 c4 k4
 have T_rows_fit : TopFn K mg "rows_fit" ZbI ["program", "f"] := ⟨_, _, F4, PySem.W.mg_of X G a4, F4.binds (ps := ["program", "f"]) fun _ _ _ _ _ _ us hl => by obtain ⟨_, _, rfl⟩ := ZdO hl; rfl⟩
 have F5 := ZaY (st := ZbJ) l5 c5 k5
 have T_row_fits : TopFn K mg "row_fits" ZbJ ["program", "row", "counts"] := ⟨_, _, F5, PySem.W.mg_of X G a5, F5.binds (ps := ["program", "row", "counts"]) fun _ _ _ _ _ _ us hl => by obtain ⟨_, _, _, rfl⟩ := Zmv hl; rfl⟩
 have F6 := ZaY (st := Zbn) l6 c6 k6
 have T_part_fits : TopFn K mg "part_fits" Zbn ["part", "kind", "counts"] := ⟨_, _, F6, PySem.W.mg_of X G a6, F6.binds (ps := ["part", "kind", "counts"]) fun _ _ _ _ _ _ us hl => by obtain ⟨_, _, _, rfl⟩ := Zmv hl; rfl⟩
 have F7 := ZaY (st := ZcD) l7 c7 k7
 have T_shown : TopFn K mg "shown" ZcD ["program"] := ⟨_, _, F7, PySem.W.mg_of X G a7, F7.binds (ps := ["program"]) fun _ _ _ _ _ _ us hl => by obtain ⟨_, rfl⟩ := Zdw hl; rfl⟩
 have F8 := ZaY (st := Zbv) l8 c8 k8
 have T_shown_def : TopFn K mg "shown_def" Zbv ["one"] := ⟨_, _, F8, PySem.W.mg_of X G a8, F8.binds (ps := ["one"]) fun _ _ _ _ _ _ us hl => by obtain ⟨_, rfl⟩ := Zdw hl; rfl⟩
 have F9 := ZaY (st := Zbu) l9 c9 k9
 have T_shown_row : TopFn K mg "shown_row" Zbu ["word", "numbers"] := ⟨_, _, F9, PySem.W.mg_of X G a9, F9.binds (ps := ["word", "numbers"]) fun _ _ _ _ _ _ us hl => by obtain ⟨_, _, rfl⟩ := ZdO hl; rfl⟩
 have F10 := ZaY (st := Zbj) l10 c10 k10
 have T_numbers_of : TopFn K mg "numbers_of" Zbj ["row"] := ⟨_, _, F10, PySem.W.mg_of X G a10, F10.binds (ps := ["row"]) fun _ _ _ _ _ _ us hl => by obtain ⟨_, rfl⟩ := Zdw hl; rfl⟩
 have F11 := ZaY (st := ZdL) l11 c11 k11
 have T_read : TopFn K mg "read" ZdL ["text"] := ⟨_, _, F11, PySem.W.mg_of X G a11, F11.binds (ps := ["text"]) fun _ _ _ _ _ _ us hl => by obtain ⟨_, rfl⟩ := Zdw hl; rfl⟩
 have F12 := ZaY (st := Zbw) l12 c12 k12
 have T_read_head : TopFn K mg "read_head" Zbw ["numbers"] := ⟨_, _, F12, PySem.W.mg_of X G a12, F12.binds (ps := ["numbers"]) fun _ _ _ _ _ _ us hl => by obtain ⟨_, rfl⟩ := Zdw hl; rfl⟩
 have F13 := ZaY (st := ZbK) l13 c13 k13
 have T_read_row : TopFn K mg "read_row" ZbK ["word", "numbers"] := ⟨_, _, F13, PySem.W.mg_of X G a13, F13.binds (ps := ["word", "numbers"]) fun _ _ _ _ _ _ us hl => by obtain ⟨_, _, rfl⟩ := ZdO hl; rfl⟩
 have F14 := ZaY (st := Zbx) l14 c14 k14
 have T_read_call : TopFn K mg "read_call" Zbx ["numbers"] := ⟨_, _, F14, PySem.W.mg_of X G a14, F14.binds (ps := ["numbers"]) fun _ _ _ _ _ _ us hl => by obtain ⟨_, rfl⟩ := Zdw hl; rfl⟩
 have F15 := ZaY (st := Zbi) l15 c15 k15
 have T_read_whole : TopFn K mg "read_whole" Zbi ["text", "most"] := ⟨_, _, F15, PySem.W.mg_of X G a15, F15.binds (ps := ["text", "most"]) fun _ _ _ _ _ _ us hl => by obtain ⟨_, _, rfl⟩ := ZdO hl; rfl⟩
 have F16 := ZaY (st := ZbN) l16 c16 k16
 have T__law_bag : TopFn K mg "_law_bag" ZbN ["script"] := ⟨_, _, F16, PySem.W.mg_of X G a16, F16.binds (ps := ["script"]) fun _ _ _ _ _ _ us hl => by obtain ⟨_, rfl⟩ := Zdw hl; rfl⟩
 have F17 := ZaY (st := ZbC) l17 c17 k17
 have T__law_draw : TopFn K mg "_law_draw" ZbC ["bag", "many"] := ⟨_, _, F17, PySem.W.mg_of X G a17, F17.binds (ps := ["bag", "many"]) fun _ _ _ _ _ _ us hl => by obtain ⟨_, _, rfl⟩ := ZdO hl; rfl⟩
 have F18 := ZaY (st := Zbc) l18 c18 k18
 have T__law_number : TopFn K mg "_law_number" Zbc ["bag"] := ⟨_, _, F18, PySem.W.mg_of X G a18, F18.binds (ps := ["bag"]) fun _ _ _ _ _ _ us hl => by obtain ⟨_, rfl⟩ := Zdw hl; rfl⟩
 have F19 := ZaY (st := Za5) l19 c19 k19
 have T__law_letters : TopFn K mg "_law_letters" Za5 [] := ⟨_, _, F19, PySem.W.mg_of X G a19, F19.binds (ps := []) fun _ _ _ _ _ _ us hl => by obtain rfl := len_0 hl; rfl⟩
 have F20 := ZaY (st := ZbB) l20 c20 k20
 have T__law_part : TopFn K mg "_law_part" ZbB ["bag", "letter", "boxes", "many", "signs"] := ⟨_, _, F20, PySem.W.mg_of X G a20, F20.binds (ps := ["bag", "letter", "boxes", "many", "signs"]) fun _ _ _ _ _ _ us hl => by obtain ⟨_, _, _, _, _, rfl⟩ := len_5 hl; rfl⟩
 have F21 := ZaY (st := ZbM) l21 c21 k21
 have T__law_row : TopFn K mg "_law_row" ZbM ["bag", "word", "boxes", "many", "signs"] := ⟨_, _, F21, PySem.W.mg_of X G a21, F21.binds (ps := ["bag", "word", "boxes", "many", "signs"]) fun _ _ _ _ _ _ us hl => by obtain ⟨_, _, _, _, _, rfl⟩ := len_5 hl; rfl⟩
 have F22 := ZaY (st := Zbz) l22 c22 k22
 have T__law_rows : TopFn K mg "_law_rows" Zbz ["bag", "boxes", "many", "signs"] := ⟨_, _, F22, PySem.W.mg_of X G a22, F22.binds (ps := ["bag", "boxes", "many", "signs"]) fun _ _ _ _ _ _ us hl => by obtain ⟨_, _, _, _, rfl⟩ := Zmu hl; rfl⟩
 have F23 := ZaY (st := Zbk) l23 c23 k23
 have T__law_signs : TopFn K mg "_law_signs" Zbk ["bag", "many"] := ⟨_, _, F23, PySem.W.mg_of X G a23, F23.binds (ps := ["bag", "many"]) fun _ _ _ _ _ _ us hl => by obtain ⟨_, _, rfl⟩ := ZdO hl; rfl⟩
 have F24 := ZaY (st := Za4) l24 c24 k24
 have T__law_program : TopFn K mg "_law_program" Za4 ["bag"] := ⟨_, _, F24, PySem.W.mg_of X G a24, F24.binds (ps := ["bag"]) fun _ _ _ _ _ _ us hl => by obtain ⟨_, rfl⟩ := Zdw hl; rfl⟩
 have F25 := ZaY (st := ZbA) l25 c25 k25
 have T__law_pick : TopFn K mg "_law_pick" ZbA ["bag"] := ⟨_, _, F25, PySem.W.mg_of X G a25, F25.binds (ps := ["bag"]) fun _ _ _ _ _ _ us hl => by obtain ⟨_, rfl⟩ := Zdw hl; rfl⟩
 have F26 := ZaY (st := Zbl) l26 c26 k26
 have T__law_bound : TopFn K mg "_law_bound" Zbl ["program", "one", "row", "k"] := ⟨_, _, F26, PySem.W.mg_of X G a26, F26.binds (ps := ["program", "one", "row", "k"]) fun _ _ _ _ _ _ us hl => by obtain ⟨_, _, _, _, rfl⟩ := Zmu hl; rfl⟩
 have F27 := ZaY (st := ZaT) l27 c27 k27
 have T__law_bent_args : TopFn K mg "_law_bent_args" ZaT ["args", "pick", "mend"] := ⟨_, _, F27, PySem.W.mg_of X G a27, F27.binds (ps := ["args", "pick", "mend"]) fun _ _ _ _ _ _ us hl => by obtain ⟨_, _, _, rfl⟩ := Zmv hl; rfl⟩
 have F28 := ZaY (st := ZaX) l28 c28 k28
 have T__law_bent_row : TopFn K mg "_law_bent_row" ZaX ["program", "one", "row", "pick"] := ⟨_, _, F28, PySem.W.mg_of X G a28, F28.binds (ps := ["program", "one", "row", "pick"]) fun _ _ _ _ _ _ us hl => by obtain ⟨_, _, _, _, rfl⟩ := Zmu hl; rfl⟩
 have F29 := ZaY (st := ZaR) l29 c29 k29
 have T__law_bent_rows : TopFn K mg "_law_bent_rows" ZaR ["rows", "pick"] := ⟨_, _, F29, PySem.W.mg_of X G a29, F29.binds (ps := ["rows", "pick"]) fun _ _ _ _ _ _ us hl => by obtain ⟨_, _, rfl⟩ := ZdO hl; rfl⟩
 have F30 := ZaY (st := ZaS) l30 c30 k30
 have T__law_bent_defs : TopFn K mg "_law_bent_defs" ZaS ["program", "pick"] := ⟨_, _, F30, PySem.W.mg_of X G a30, F30.binds (ps := ["program", "pick"]) fun _ _ _ _ _ _ us hl => by obtain ⟨_, _, rfl⟩ := ZdO hl; rfl⟩
 have F31 := ZaY (st := ZbD) l31 c31 k31
 have T__law_bent : TopFn K mg "_law_bent" ZbD ["program", "pick"] := ⟨_, _, F31, PySem.W.mg_of X G a31, F31.binds (ps := ["program", "pick"]) fun _ _ _ _ _ _ us hl => by obtain ⟨_, _, rfl⟩ := ZdO hl; rfl⟩
 have F32 := ZaY (st := Zbd) l32 c32 k32
 have T__law_alike : TopFn K mg "_law_alike" Zbd ["found", "due"] := ⟨_, _, F32, PySem.W.mg_of X G a32, F32.binds (ps := ["found", "due"]) fun _ _ _ _ _ _ us hl => by obtain ⟨_, _, rfl⟩ := ZdO hl; rfl⟩
 have F33 := ZaY (st := Zbb) l33 c33 k33
 have T__law_rising : TopFn K mg "_law_rising" Zbb ["found", "many"] := ⟨_, _, F33, PySem.W.mg_of X G a33, F33.binds (ps := ["found", "many"]) fun _ _ _ _ _ _ us hl => by obtain ⟨_, _, rfl⟩ := ZdO hl; rfl⟩
 have F34 := ZaY (st := ZeW) l34 c34 k34
 have e := hfa.symm.trans (PySem.W.mg_of X G a34)
 cases e
 refine ⟨PySem.W.fnOf "law" "law" (ZaD ZeW) (ZaA ZeW) (Zag ZeW) .none kV34 dc34 pm34 an34 cd34 ct34, fun s v => .of_eq rfl, fun base _ _ => ?_⟩
 exact Zi2 (B := B) (G := GG) (T_is_whole := T_is_whole) (T_nexts := T_nexts) (T_formed := T_formed) (T_head_fits := T_head_fits) (T_rows_fit := T_rows_fit) (T_row_fits := T_row_fits) (T_part_fits := T_part_fits) (T_shown := T_shown) (T_shown_def := T_shown_def) (T_shown_row := T_shown_row) (T_numbers_of := T_numbers_of) (T_read := T_read) (T_read_head := T_read_head) (T_read_row := T_read_row) (T_read_call := T_read_call) (T_read_whole := T_read_whole) (T__law_bag := T__law_bag) (T__law_draw := T__law_draw) (T__law_number := T__law_number) (T__law_letters := T__law_letters) (T__law_part := T__law_part) (T__law_row := T__law_row) (T__law_rows := T__law_rows) (T__law_signs := T__law_signs) (T__law_program := T__law_program) (T__law_pick := T__law_pick) (T__law_bound := T__law_bound) (T__law_bent_args := T__law_bent_args) (T__law_bent_row := T__law_bent_row) (T__law_bent_rows := T__law_bent_rows) (T__law_bent_defs := T__law_bent_defs) (T__law_bent := T__law_bent) (T__law_alike := T__law_alike) (T__law_rising := T__law_rising) (T_law := F34)
end My
open PySem PySem.W PyProof.Rows
set_option maxRecDepth 100000 in
set_option maxHeartbeats 0 in
theorem PySem.Challenge.cw_midlanes_k17_whole_formed_goes_on_holds : PySem.Challenge.rw_midlanes_k17_whole_formed_goes_on.Holds := by
 w_on; o_law; k_head; (case hw => w_witness2)
 k_fill
 refine L2.ZhT (l := PySem.Challenge.rw_midlanes_k17_whole_formed_goes_on) (n := 63) (k := 12) (x := "script") (CX := fun _ => L2.CX0) (sp := fun w => L2.Zie _) rfl (by decide) rfl ⟨rfl, by decide, by decide⟩ (fun w h Y => PySem.W.kIn_of Y) ?F (fun _ _ a ns hl _ hS => L2.ZjZ hl hS) (fun _ _ _ _ _ z => z)
 case F =>
  intro w mg fa h KX G hmg
  refine' My.all_mk KX G hmg ?a0 ?l0 ?c0 ?k0 ?a1 ?l1 ?c1 ?k1 ?a2 ?l2 ?c2 ?k2 ?a3 ?l3 ?c3 ?k3 ?a4 ?l4 ?c4 ?k4 ?a5 ?l5 ?c5 ?k5 ?a6 ?l6 ?c6 ?k6 ?a7 ?l7 ?c7 ?k7 ?a8 ?l8 ?c8 ?k8 ?a9 ?l9 ?c9 ?k9 ?a10 ?l10 ?c10 ?k10 ?a11 ?l11 ?c11 ?k11 ?a12 ?l12 ?c12 ?k12 ?a13 ?l13 ?c13 ?k13 ?a14 ?l14 ?c14 ?k14 ?a15 ?l15 ?c15 ?k15 ?a16 ?l16 ?c16 ?k16 ?a17 ?l17 ?c17 ?k17 ?a18 ?l18 ?c18 ?k18 ?a19 ?l19 ?c19 ?k19 ?a20 ?l20 ?c20 ?k20 ?a21 ?l21 ?c21 ?k21 ?a22 ?l22 ?c22 ?k22 ?a23 ?l23 ?c23 ?k23 ?a24 ?l24 ?c24 ?k24 ?a25 ?l25 ?c25 ?k25 ?a26 ?l26 ?c26 ?k26 ?a27 ?l27 ?c27 ?k27 ?a28 ?l28 ?c28 ?k28 ?a29 ?l29 ?c29 ?k29 ?a30 ?l30 ?c30 ?k30 ?a31 ?l31 ?c31 ?k31 ?a32 ?l32 ?c32 ?k32 ?a33 ?l33 ?c33 ?k33 ?a34 ?l34 ?c34 ?k34 ?g_FIGURES ?g_MOST_BOXES ?g_MOST_DEFS ?g_MOST_FACTOR ?g_MOST_FIGURES ?g_MOST_ROWS ?g_MOST_TAKES ?g_PARTS ?h_PARTS ?s_PARTS ?h_PARTS_0 ?h_PARTS_1 ?h_PARTS_2 ?h_PARTS_3 ?h_PARTS_4 ?h_PARTS_5 ?h_PARTS_6 ?h_PARTS_7 ?h_PARTS_8 ?h_PARTS_9 ?h_PARTS_10 ?h_PARTS_11 ?z_abs ?z_all ?z_bool ?z_int ?z_isinstance ?z_len ?z_list ?z_max ?z_min ?z_range ?z_set ?z_sorted ?z_str ?z_tuple ?z_zip
  (case a0 => k_is)
  (case l0 => k_is)
  (case c0 => k_is)
  (case k0 => k_is)
  (case a1 => k_is)
  (case l1 => k_is)
  (case c1 => k_is)
  (case k1 => k_is)
  (case a2 => k_is)
  (case l2 => k_is)
  (case c2 => k_is)
  (case k2 => k_is)
  (case a3 => k_is)
  (case l3 => k_is)
  (case c3 => k_is)
  (case k3 => k_is)
  (case a4 => k_is)
  (case l4 => k_is)
  (case c4 => k_is)
  (case k4 => k_is)
  (case a5 => k_is)
  (case l5 => k_is)
  (case c5 => k_is)
  (case k5 => k_is)
  (case a6 => k_is)
  (case l6 => k_is)
  (case c6 => k_is)
  (case k6 => k_is)
  (case a7 => k_is)
  (case l7 => k_is)
  (case c7 => k_is)
  (case k7 => k_is)
  (case a8 => k_is)
  (case l8 => k_is)
  (case c8 => k_is)
  (case k8 => k_is)
  (case a9 => k_is)
  (case l9 => k_is)
  (case c9 => k_is)
  (case k9 => k_is)
  (case a10 => k_is)
  (case l10 => k_is)
  (case c10 => k_is)
  (case k10 => k_is)
  (case a11 => k_is)
  (case l11 => k_is)
  (case c11 => k_is)
  (case k11 => k_is)
  (case a12 => k_is)
  (case l12 => k_is)
  (case c12 => k_is)
  (case k12 => k_is)
  (case a13 => k_is)
  (case l13 => k_is)
  (case c13 => k_is)
  (case k13 => k_is)
  (case a14 => k_is)
  (case l14 => k_is)
  (case c14 => k_is)
  (case k14 => k_is)
  (case a15 => k_is)
  (case l15 => k_is)
  (case c15 => k_is)
  (case k15 => k_is)
  (case a16 => k_is)
  (case l16 => k_is)
  (case c16 => k_is)
  (case k16 => k_is)
  (case a17 => k_is)
  (case l17 => k_is)
  (case c17 => k_is)
  (case k17 => k_is)
  (case a18 => k_is)
  (case l18 => k_is)
  (case c18 => k_is)
  (case k18 => k_is)
  (case a19 => k_is)
  (case l19 => k_is)
  (case c19 => k_is)
  (case k19 => k_is)
  (case a20 => k_is)
  (case l20 => k_is)
  (case c20 => k_is)
  (case k20 => k_is)
  (case a21 => k_is)
  (case l21 => k_is)
  (case c21 => k_is)
  (case k21 => k_is)
  (case a22 => k_is)
  (case l22 => k_is)
  (case c22 => k_is)
  (case k22 => k_is)
  (case a23 => k_is)
  (case l23 => k_is)
  (case c23 => k_is)
  (case k23 => k_is)
  (case a24 => k_is)
  (case l24 => k_is)
  (case c24 => k_is)
  (case k24 => k_is)
  (case a25 => k_is)
  (case l25 => k_is)
  (case c25 => k_is)
  (case k25 => k_is)
  (case a26 => k_is)
  (case l26 => k_is)
  (case c26 => k_is)
  (case k26 => k_is)
  (case a27 => k_is)
  (case l27 => k_is)
  (case c27 => k_is)
  (case k27 => k_is)
  (case a28 => k_is)
  (case l28 => k_is)
  (case c28 => k_is)
  (case k28 => k_is)
  (case a29 => k_is)
  (case l29 => k_is)
  (case c29 => k_is)
  (case k29 => k_is)
  (case a30 => k_is)
  (case l30 => k_is)
  (case c30 => k_is)
  (case k30 => k_is)
  (case a31 => k_is)
  (case l31 => k_is)
  (case c31 => k_is)
  (case k31 => k_is)
  (case a32 => k_is)
  (case l32 => k_is)
  (case c32 => k_is)
  (case k32 => k_is)
  (case a33 => k_is)
  (case l33 => k_is)
  (case c33 => k_is)
  (case k33 => k_is)
  (case a34 => k_is)
  (case l34 => k_is)
  (case c34 => k_is)
  (case k34 => k_is)
  (case g_FIGURES => k_is)
  (case g_MOST_BOXES => k_is)
  (case g_MOST_DEFS => k_is)
  (case g_MOST_FACTOR => k_is)
  (case g_MOST_FIGURES => k_is)
  (case g_MOST_ROWS => k_is)
  (case g_MOST_TAKES => k_is)
  (case g_PARTS => k_is)
  (case h_PARTS => k_is)
  (case s_PARTS => first | rfl | decide)
  (case h_PARTS_0 => k_is)
  (case h_PARTS_1 => k_is)
  (case h_PARTS_2 => k_is)
  (case h_PARTS_3 => k_is)
  (case h_PARTS_4 => k_is)
  (case h_PARTS_5 => k_is)
  (case h_PARTS_6 => k_is)
  (case h_PARTS_7 => k_is)
  (case h_PARTS_8 => k_is)
  (case h_PARTS_9 => k_is)
  (case h_PARTS_10 => k_is)
  (case h_PARTS_11 => k_is)
  (case z_abs => k_is)
  (case z_all => k_is)
  (case z_bool => k_is)
  (case z_int => k_is)
  (case z_isinstance => k_is)
  (case z_len => k_is)
  (case z_list => k_is)
  (case z_max => k_is)
  (case z_min => k_is)
  (case z_range => k_is)
  (case z_set => k_is)
  (case z_sorted => k_is)
  (case z_str => k_is)
  (case z_tuple => k_is)
  (case z_zip => k_is)
