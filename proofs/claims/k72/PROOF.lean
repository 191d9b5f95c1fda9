import PyProof.Rows.All
import Wide.All
import OpenK.AllK
import Wide.FinOn
import Lean
import PyProof.EqAt
import PyProof.EqKinds
import PyProof.TupleCall
import PyProof.NeKinds
import KE.KDictSum
import PyProof.Rows.SortRuns
import PySem.SetOps
import PyProof.Rows.SetFrom
import PyProof.DictWalks
import PyProof.FactsAll.set_1
import PyProof.FactsAll.set_2
import PyProof.MakeMany
import PyProof.CollectWalk
import PyProof.Rows.SortShell
import PyProof.StrWalks
import PyProof.StrLoop
import PyProof.SliceStr2
import PyProof.StrBlockI
import PyProof.Rows.StrWeight2
import PyProof.StrOps2
import PyProof.ConsumeWalk
import PyProof.ZipIter
import KE.KIntText
import PyProof.StrBlockG
import PyProof.StrLawsTight
import PyProof.StrLawsChain
import KE.IntTextLaws
import PyProof.Rows.CatFin
import OpenK.KOwn
import KE.KTryMore
import KE.KIsNot
import PyProof.Rows.TopTwo
import PyProof.NsDelKeeps
import PyProof.RulesAs
import PyProof.Rows.Catch
import PyProof.ExcAttrAll.ValueError
import PyProof.StrCalls6
import PyProof.StrCalls
import PyProof.TupleIter
import PyProof.Draws
import KE.KUnpack
import PyProof.FString
import PySem.Challenge.RW_midlanes_k72_lane_texts_that_are_none
set_option Elab.async false
set_option linter.all false
set_option maxRecDepth 100000
set_option maxHeartbeats 4000000
open List (all_cons all_eq_true all_map all_takeWhile any_cons any_eq_false any_eq_true append_assoc append_eq_append_iff append_eq_nil_iff append_nil cons_append cons_ne_nil countP_cons countP_le_length count_append count_cons_self count_eq_zero count_le_length dropLast_concat dropLast_concat_getLast dropWhile_cons dropWhile_sublist drop_drop drop_eq_getElem_cons drop_eq_nil_of_le drop_length drop_sublist drop_succ_cons eq_nil_of_length_eq_zero ext_getElem? filterMap_append filterMap_cons filterMap_map filter_append filter_cons filter_eq_nil_iff find?_cons flatten_append flatten_cons flatten_nil flatten_singleton foldlM_append foldlM_cons foldlM_map foldl_append foldl_cons forIn_cons getElem?_append_left getElem?_append_right getElem?_cons_succ getElem?_drop getElem?_eq_getElem getElem?_eq_none getElem?_eq_none_iff getElem?_map getElem?_mapIdx getElem?_replicate getElem?_set_ne getElem?_set_self getElem?_take getElem?_take_of_lt getElem_inj getElem_mem getElem_of_mem getLast?_concat head?_cons head?_dropWhile_not head?_eq_getElem? isEmpty_iff length_append length_cons length_drop length_dropLast length_eq_one_iff length_eq_zero_iff length_filterMap_le length_flatten length_map length_nil length_pos_iff length_range length_replicate length_set length_singleton length_take lookup_cons mapM_append mapM_cons mapM_nil map_append map_congr_left map_cons map_drop map_eq_nil_iff map_flatten map_id map_map map_nil map_set map_singleton map_take mem_append mem_append_left mem_append_right mem_cons mem_cons_of_mem mem_cons_self mem_filter mem_filterMap mem_flatten mem_iff_getElem mem_iff_getElem? mem_map mem_nil_iff mem_of_getElem? mem_of_mem_drop mem_of_mem_take mem_range mem_replicate mem_singleton nil_append nodup_append nodup_cons nodup_nil not_mem_nil of_mem_zip range_succ replicate_succ replicate_succ' set_append_right set_eq_of_length_le set_eq_take_append_cons_drop size_toArray sublist_flatten_of_mem sum_append sum_cons sum_nil takeWhile_append_dropWhile takeWhile_cons take_add_one take_append_drop take_length take_nil take_of_length_le take_sublist take_succ_cons take_zero toList_toArray)
section
namespace L2
open PySem PySem.Spec PyProof.Rows
noncomputable abbrev Key:=Sum Int Str
noncomputable def ZiY:Key->Value->Bool
 | .inl k,v=>Value.isInt k v
 | .inr x,v=>Value.isStrOf x v
noncomputable def keyH (w:World):Key->Int
 | .inl k=>hashInt k
 | .inr x=>hashStr w x
theorem Zbu : ∀ {k : Key} {v : Value}, ZiY k v = true -> (∃ i t, k = Sum.inl i /\ v = Value.int i t) \/ (∃ x t, k = Sum.inr x /\ v = Value.str x t)
  | .inl i, v, h => by
    obtain ⟨t, e⟩ := Value.isInt_shape (k := i) (v := v) h
    exact .inl ⟨i, t, rfl, e⟩
  | .inr x, v, h => by
    obtain ⟨t, e⟩ := Value.isStrOf_shape (x := x) (v := v) h
    exact .inr ⟨x, t, rfl, e⟩
theorem Zks (i:Int) (t:Tok):ZiY (.inl i) (.int i t)=true:=by simp [ZiY,Value.isInt]
theorem Zkr (x:Str) (t:Tok):ZiY (.inr x) (.str x t)=true:=by simp [ZiY,Value.isStrOf]
theorem key_ll (a b:Int):decide ((Sum.inl a:Key)=Sum.inl b)=(a == b):=by
 by_cases e:a=b
 ·subst e;simp
 ·have h:¬ (Sum.inl a:Key)=Sum.inl b:=fun q=>e (Sum.inl.inj q)
  rw [decide_eq_false h]
  exact (beq_eq_false_iff_ne.mpr e).symm
theorem key_rr (a b:Str):decide ((Sum.inr a:Key)=Sum.inr b)=decide (a=b):=by
 by_cases e:a=b
 ·subst e;simp
 ·have h:¬ (Sum.inr a:Key)=Sum.inr b:=fun q=>e (Sum.inr.inj q)
  rw [decide_eq_false h,decide_eq_false e]
theorem key_lr (a:Int) (b:Str):decide ((Sum.inl a:Key)=Sum.inr b)=false:=decide_eq_false (fun q=>nomatch q)
theorem key_rl (a:Str) (b:Int):decide ((Sum.inr a:Key)=Sum.inl b)=false:=decide_eq_false (fun q=>nomatch q)
noncomputable def Zbt (prog:Program) (w:World):PySem.KeyKind prog w Key where
 is:=ZiY
 hash:=keyH w
 inj:=fun v a b ha hb=>by
  rcases Zbu ha with ⟨i,t,rfl,rfl⟩|⟨x,t,rfl,rfl⟩
  ·rcases Zbu hb with ⟨j,u,rfl,e⟩|⟨y,u,rfl,e⟩
   ·injection e with e1 _;rw [e1]
   ·exact nomatch e
  ·rcases Zbu hb with ⟨j,u,rfl,e⟩|⟨y,u,rfl,e⟩
   ·exact nomatch e
   ·injection e with e1 _;rw [e1]
 byValue:=fun k v h=>by
  rcases Zbu h with ⟨i,t,rfl,rfl⟩|⟨x,t,rfl,rfl⟩ <;> rfl
 pyHash:=fun hv h=>by
  rcases Zbu hv with ⟨i,t,rfl,rfl⟩|⟨x,t,rfl,rfl⟩
  ·exact wpAny_pyHash_int h
  ·exact wpAny_pyHash_str h
 eqBool:=fun hu hv h=>by
  rcases Zbu hu with ⟨i,t,rfl,rfl⟩|⟨x,t,rfl,rfl⟩
  ·rcases Zbu hv with ⟨j,u,rfl,rfl⟩|⟨y,u,rfl,rfl⟩
   ·rw [key_ll] at h;exact wpAny_eqBool_int h
   ·rw [key_lr] at h;exact SeqAt.EqAt.int_str i t y u _ _ _ _ h
  ·rcases Zbu hv with ⟨j,u,rfl,rfl⟩|⟨y,u,rfl,rfl⟩
   ·rw [key_rl] at h;exact SeqAt.EqAt.str_int x t j u _ _ _ _ h
   ·rw [key_rr] at h;exact wpAny_eqBool_str h
 «strs»:=fun k x t v h=>by
  rcases Zbu h with ⟨i,u,rfl,e⟩|⟨y,u,rfl,e⟩
  ·exact nomatch e
  ·injection e with e1 _
   subst e1
   cases v <;> rfl
theorem ZhN (prog:Program) (w:World) (i:Int) (t:Tok):(Zbt prog w).is (.inl i) (.int i t)=true:=Zks i t
theorem Zdp (prog:Program) (w:World) (x:Str) (t:Tok):(Zbt prog w).is (.inr x) (.str x t)=true:=Zkr x t
end L2
namespace L2
open PySem PySem.Spec PyProof.Rows
inductive V where
 | non|bl (b:Bool)|int (i:Int)|str (x:Str)|byt (b:Array UInt8)|flt (b:UInt64)|ref (a:Addr)|ty (n:String)
 deriving DecidableEq
noncomputable def RelV:V->Value->Prop
 | .non,u=>u=Value.none
 | .bl b,u=>u=Value.bool b
 | .int i,u=>∃ t,u=Value.int i t
 | .str x,u=>∃ t,u=Value.str x t
 | .byt b,u=>∃ t,u=Value.bytes b t
 | .flt b,u=>∃ t,u=Value.float b t
 | .ref a,u=>u=Value.ref a
 | .ty n,u=>u=Value.type n
noncomputable abbrev Vals:List V->List Value->Prop:=Paired RelV
theorem Vals.length {xs:List V} {us:List Value} (r:Vals xs us):xs.length=us.length:=Paired.length r
theorem Vals.get : ∀ {xs : List V} {us : List Value} {i : Nat} {x : V}, Vals xs us -> xs[i]? = some x -> ∃ u, us[i]? = some u /\ RelV x u
  | _, _, _, _, .nil, e => by simp at e
  | _, _, 0, _, .cons r _, e => by simp at e; subst e; exact ⟨_, rfl, r⟩
  | _, _, i + 1, x, .cons _ t, e => by
    obtain ⟨u, h1, h2⟩ := Vals.get (i := i) (x := x) t (by simpa using e)
    exact ⟨u, by simpa using h1, h2⟩
theorem Vals.set {x:V} {u:Value} (r:RelV x u):∀ {xs:List V} {us:List Value} (i:Nat),Vals xs us->Vals (xs.set i x) (us.set i u)
 | _,_,_,.nil=>.nil
 | _,_,0,.cons _ t=>.cons r t
 | _,_,i+1,.cons q t=>.cons q (Vals.set r i t)
theorem Vals.append {xs ys:List V} {us ws:List Value} (h:Vals xs us) (s:Vals ys ws):Vals (xs++ys) (us++ws):=by
 induction h with
 | nil=>exact s
 | cons r _ ih=>exact .cons r ih
theorem Vals.take:∀ {xs:List V} {us:List Value} (n:Nat),Vals xs us->Vals (xs.take n) (us.take n)
 | _,_,0,_=>.nil
 | _,_,_+1,.nil=>.nil
 | _,_,n+1,.cons r t=>.cons r (Vals.take n t)
theorem Vals.drop:∀ {xs:List V} {us:List Value} (n:Nat),Vals xs us->Vals (xs.drop n) (us.drop n)
 | _,_,0,r=>r
 | _,_,_+1,.nil=>.nil
 | _,_,n+1,.cons _ t=>Vals.drop n t
noncomputable def RelO:Option V->Option Value->Prop
 | some v,some u=>RelV v u
 | none,none=>True
 | _,_=>False
noncomputable def KV {κ:Type}:List (κ×V)->List (κ×Value)->Prop:=Paired fun (p:κ×V) (q:κ×Value)=>p.1=q.1/\RelV p.2 q.2
noncomputable def kV:Key->V
 | .inl i=>.int i
 | .inr x=>.str x
inductive HO where
 | lst (xs:List V)
 | tup (xs:List V)
 | dK (kvs:List (Key×V))|dT (kvs:List (List Key×V))
 | set (S:Int->Bool) (n:Nat)
 | ins (C dx:Addr) (fs:List (Str×V))
 | own (x:Addr)
 | xd (fs:List (Str×V))
 | met (f x:Addr)
 | rng (lo hi:Int)
 | frz (o:Obj) (u:HO)
 | tbl (ps:Array Value)
 | ext (φ:Heap->Prop)
noncomputable abbrev Hp:=Addr->Option HO
noncomputable def upd (H:Hp) (a:Addr) (o:HO):Hp:=fun b=>if b=a then some o else H b
theorem Zad {H:Hp} {a:Addr} {o:HO}:upd H a o a=some o:=by unfold upd;rw [if_pos rfl]
theorem Zat {H:Hp} {a b:Addr} {o:HO} (h:b≠a):upd H a o b=H b:=by unfold upd;rw [if_neg h]
theorem Zm2 {H:Hp} {a:Addr} {o u:HO}:upd (upd H a o) a u=upd H a u:=by
 funext b;unfold upd;split <;> rfl
theorem ne_of {H:Hp} {a b:Addr} {o u:HO} (h:H a=some o) (h':H b=some u) (d:o≠u):a≠b:=by
 intro e;subst e;rw [h] at h';exact d (Option.some.inj h')
theorem Zbx {H:Hp} {a b:Addr} {o:HO} (h:H a=some o) (h':H b=none):a≠b:=by
 intro e;subst e;rw [h] at h';cases h'
section
variable (P:Program) (w:World)
noncomputable def ObjOk (H:Hp) (h:Heap) (a:Addr):HO->Prop
 | .lst xs=>xs.length<=sizeLine/\∃ (its:List Value) (n:Nat),Vals xs its/\h.get? a=some { cls:=.type "list",data:=.seq its.toArray n }
 | .tup xs=>xs.length<=sizeLine/\∃ its:List Value,Vals xs its/\IsTup h a its.toArray
 | .dK kvs=>kvs.length<=sizeLine/\(a == sysModules)=false/\∃ vs,KV kvs vs/\h.DictOf (Zbt P w) a vs
 | .dT kvs=>kvs.length<=sizeLine/\(a == sysModules)=false/\∃ xs:List (List Key×Addr×Value),
   Paired (fun (p:List Key×V) (q:List Key×Addr×Value)=>p.1=q.1/\H q.2.1=some (.tup (p.1.map kV))/\RelV p.2 q.2.2) kvs xs /\
   ∃ o es ep,h.get? a=some o/\o.ExactDict/\o.data=.dict es ep/\es.toList=xs.map (entryOfKey (tupleKind (Zbt P w)))/\(xs.map (·.1)).Nodup
 | .set S n=>h.SetOf (intKind P w) a S n
 | .ins C dx fs=>H dx=some (.own a)/\fs.length<=1000/\dx≠a/\h.get? a=some (PySem.W.instObj C dx) /\
   ∃ mA,h.Ns1 dx mA/\(∀ f,RelO (fs.lookup f) (mA f))/\PySem.Within mA (fs.map (·.1))
 | .own _=>∃ o,h.get? a=some o
 | .xd fs=>∃ mA,h.Ns1 a mA/\∀ f,RelO (fs.lookup f) (mA f)
 | .rng lo hi=>∃ t u v,h.get? a=some { cls:=.type "range",data:=.fields #[.int lo t,.int hi u,.int 1 v] }
 | .frz o u=>h.get? a=some o/\ObjOk H h a u
 | .tbl ps=>h.get? a=some { cls:=.none,data:=.fields ps }
 | .met f x=>h.get? a=some (PySem.W.methodObj (.ref f) (.ref x))
 | .ext φ=>φ h/\(∃ o,h.get? a=some o)/\∀ h1 h2:Heap,φ h1->(∀ o,h1.get? a=some o->h2.get? a=some o)->φ h2
noncomputable def HOk (H:Hp) (h:Heap):Prop:=∀ a o,H a=some o->ObjOk P w H h a o
end
section
variable {P:Program} {w:World} {H H':Hp} {h h':Heap} {a:Addr} {o:HO}
theorem ObjOk.lt (x:ObjOk P w H h a o):a < h.objs.size:=by
 cases o with
 | lst xs=>obtain ⟨_,_,_,_,e⟩:=x;exact Heap.lt_size e
 | tup xs=>obtain ⟨_,_,_,p⟩:=x;exact p.lt
 | dK kvs=>obtain ⟨_,_,_,_,o,_,_,e,_⟩:=x;exact Heap.lt_size e
 | dT kvs=>obtain ⟨_,_,_,_,o,_,_,e,_⟩:=x;exact Heap.lt_size e
 | set S n=>obtain ⟨o,_,_,_,e,_⟩:=x;exact Heap.lt_size e
 | ins C dx fs=>obtain ⟨_,_,_,e,_⟩:=x;exact Heap.lt_size e
 | own y=>obtain ⟨_,e⟩:=x;exact Heap.lt_size e
 | xd fs=>obtain ⟨_,⟨_,_,_,e,_⟩,_⟩:=x;exact Heap.lt_size e
 | rng lo hi=>obtain ⟨_,_,_,e⟩:=x;exact Heap.lt_size e
 | frz ob u=>obtain ⟨e,_⟩:=x;exact Heap.lt_size e
 | tbl ps=>exact Heap.lt_size (show h.get? a=some _ from x)
 | met f y=>exact Heap.lt_size (show h.get? a=some _ from x)
 | ext φ=>obtain ⟨_,⟨_,e⟩,_⟩:=x;exact Heap.lt_size e
theorem Paired.mapP {α β:Type} {F G:α->β->Prop} {l₁:List α} {l₂:List β} (h:Paired F l₁ l₂) (f:∀ a b,F a b->G a b):Paired G l₁ l₂:=by
 induction h with
 | nil=>exact .nil
 | cons r _ ih=>exact .cons (f _ _ r) ih
theorem ObjOk.stay (x : ObjOk P w H h a o) (k : ∀ b u, (b = a \/ H b = some (.own a)) -> h.get? b = some u -> h'.get? b = some u)
    (ho : ∀ b, H b = some (.own a) -> H' b = some (.own a)) (ht : ∀ b xs, H b = some (.tup xs) -> H' b = some (.tup xs)) : ObjOk P w H' h' a o := by
  induction o with
  | lst xs => obtain ⟨z, its, n, r, e⟩ := x; exact ⟨z, its, n, r, k _ _ (.inl rfl) e⟩
  | tup xs => obtain ⟨z, its, r, ob, e, c⟩ := x; exact ⟨z, its, r, ob, k _ _ (.inl rfl) e, c⟩
  | dK kvs => obtain ⟨z, y, vs, r, ob, es, ep, e, c⟩ := x; exact ⟨z, y, vs, r, ob, es, ep, k _ _ (.inl rfl) e, c⟩
  | dT kvs =>
    obtain ⟨z, y, xs, r, ob, es, ep, e, c⟩ := x
    exact ⟨z, y, xs, Paired.mapP r fun p q z => ⟨z.1, ht _ _ z.2.1, z.2.2⟩, ob, es, ep, k _ _ (.inl rfl) e, c⟩
  | set S n => obtain ⟨ob, es, ep, t, e, c⟩ := x; exact ⟨ob, es, ep, t, k _ _ (.inl rfl) e, c⟩
  | ins C dx fs =>
    obtain ⟨d, z, ne, e, mA, ⟨od, es, ep, e2, c⟩, r⟩ := x
    exact ⟨ho _ d, z, ne, k _ _ (.inl rfl) e, mA, ⟨od, es, ep, k _ _ (.inr d) e2, c⟩, r⟩
  | own y => obtain ⟨ob, e⟩ := x; exact ⟨ob, k _ _ (.inl rfl) e⟩
  | xd fs => obtain ⟨mA, ⟨od, es, ep, e, c⟩, r⟩ := x; exact ⟨mA, ⟨od, es, ep, k _ _ (.inl rfl) e, c⟩, r⟩
  | rng lo hi => obtain ⟨t, u, v, e⟩ := x; exact ⟨t, u, v, k _ _ (.inl rfl) e⟩
  | frz ob u ih => obtain ⟨e, q⟩ := x; exact ⟨k _ _ (.inl rfl) e, ih q⟩
  | tbl ps =>
    have e : h.get? a = some { cls := .none, data := .fields ps } := x
    show h'.get? a = some { cls := .none, data := .fields ps }
    exact k a _ (.inl rfl) e
  | met f y =>
    have e : h.get? a = some (PySem.W.methodObj (.ref f) (.ref y)) := x
    show h'.get? a = some (PySem.W.methodObj (.ref f) (.ref y))
    exact k a _ (.inl rfl) e
  | ext φ => obtain ⟨p, ⟨o, e⟩, st⟩ := x; exact ⟨st _ _ p fun o q => k _ _ (.inl rfl) q, ⟨o, k _ _ (.inl rfl) e⟩, st⟩
theorem HOk.lt (x:HOk P w H h) (e:H a=some o):a < h.objs.size:=(x a o e).lt
theorem HOk.fresh (x:HOk P w H h) (e:h.objs.size<=a):H a=none:=by
 cases q:H a with
 | none=>rfl
 | some u=>exact absurd (Nat.lt_of_lt_of_le (x.lt q) e) (Nat.lt_irrefl _)
theorem HOk.kept (x:HOk P w H h) (k:∀ b u,h.get? b=some u->h'.get? b=some u):HOk P w H h':=fun a o e =>
 (x a o e).stay (fun b u _ q=>k b u q) (fun _ q=>q) fun _ _ q=>q
theorem HOk.laid (x:HOk P w H h) (k:∀ b u,h.get? b=some u->h'.get? b=some u) (hp:h.objs.size<=a) (new:ObjOk P w (upd H a o) h' a o):HOk P w (upd H a o) h':=fun b u e=>by
 have hn:=x.fresh hp
 by_cases hb:b=a
 ·subst hb;rw [Zad] at e;cases e;exact new
 ·rw [Zat hb] at e
  exact (x b u e).stay (fun c v _ q=>k c v q) (fun c q=>by rw [Zat (Zbx q hn)];exact q) fun c xs q=>by rw [Zat (Zbx q hn)];exact q
end
noncomputable def Rd (H:Hp) (a:Addr) (u:HO):Prop:=H a=some u\/∃ o,H a=some (.frz o u)
theorem Rd.ok {P:Program} {w:World} {H:Hp} {h:Heap} {a:Addr} {u:HO} (r:Rd H a u) (x:HOk P w H h):ObjOk P w H h a u:=by
 rcases r with r|⟨o,r⟩
 ·exact x a u r
 ·obtain ⟨_,q⟩:=x a _ r
  exact q
noncomputable def Mut:Option HO->Prop
 | some (.lst _)=>True
 | some (.dK _)=>True
 | some (.dT _)=>True
 | some (.set _ _)=>True
 | some (.ins _ _ _)=>True
 | some (.ext _)=>True
 | _=>False
section
variable {P:Program} {w:World} {H:Hp} {h h':Heap} {x e:Addr} {o':HO}
theorem HOk.write (ok:HOk P w H h) (mu:Mut (H x)) (he:e=x\/H e=some (.own x)) (k:∀ b u,b≠e->h.get? b=some u->h'.get? b=some u) (heo:∃ u,h'.get? e=some u)
  (new:ObjOk P w (upd H x o') h' x o'):HOk P w (upd H x o') h':=fun b u q=>by
 have nown:∀ c y,H c=some (.own y)->c≠x:=fun c y r z=>by subst z;rw [r] at mu;exact mu
 have ntup:∀ c xs,H c=some (.tup xs)->c≠x:=fun c xs r z=>by subst z;rw [r] at mu;exact mu
 by_cases hb:b=x
 ·subst hb;rw [Zad] at q;cases q;exact new
 ·rw [Zat hb] at q
  by_cases hbe:b=e
  ·have q':H b=some (.own x):=by
    rcases he with z|z
    ·exact absurd (hbe.trans z) hb
    ·rw [hbe];exact z
   rw [q] at q';cases q'
   obtain ⟨v,hv⟩:=heo
   exact ⟨v,by rw [hbe];exact hv⟩
  ·refine (ok b u q).stay (fun c v hc r=>k c v ?_ r) (fun c r=>by rw [Zat (nown c b r)];exact r) fun c xs r=>by rw [Zat (ntup c xs r)];exact r
   rcases hc with rfl|hc
   ·exact hbe
   ·rintro rfl
    rcases he with z|z
    ·exact nown c b hc z
    ·rw [hc] at z;cases z;exact hb rfl
end
structure Un (fs ex:List Addr) (H H':Hp) (h h':Heap):Prop where
 keep:∀ b o,h.get? b=some o->H b=none->b∉fs->b∉ex->h'.get? b=some o
 slot:∀ b o,h.get? b=some o->H b=none->b∈fs->b∉ex->∃ sl,h'.get? b=some { o with slots:=sl }
 free:∀ b o,h.get? b=some o->H b=none->b∉ex->H' b=none
 there:∀ b o,h.get? b=some o->b∉ex->∃ o',h'.get? b=some o'
 tups:∀ b xs,H b=some (.tup xs)->H' b=some (.tup xs)
 frzs:∀ b o u,H b=some (.frz o u)->H' b=some (.frz o u)
 tbls:∀ b ps,H b=some (.tbl ps)->∃ more,H' b=some (.tbl (ps++more))
section
variable {fs fs' ex ex':List Addr} {H H1 H2:Hp} {h h1 h2 h':Heap} {a x e:Addr} {o:HO}
theorem Un.any (u:Un fs ex H H1 h h1) {b:Addr} {ob:Obj} (q:h.get? b=some ob) (n:H b=none) (hx:b∉ex):∃ sl,h1.get? b=some { ob with slots:=sl }:=by
 by_cases hb:b∈fs
 ·exact u.slot b ob q n hb hx
 ·exact ⟨ob.slots,u.keep b ob q n hb hx⟩
theorem Un.kept (k:∀ b u,h.get? b=some u->h'.get? b=some u):Un fs ex H H h h' :=
 ⟨fun b ob q _ _ _=>k b ob q,fun b ob q _ _ _=>⟨ob.slots,k b ob q⟩,fun _ _ _ n _=>n,fun b ob q _=>⟨ob,k b ob q⟩,fun _ _ q=>q,fun _ _ _ q=>q,fun _ ps q=>⟨#[],by rw [q];simp⟩⟩
theorem Un.refl:Un fs ex H H h h:=Un.kept fun _ _ q=>q
theorem Un.laid (k:∀ b u,h.get? b=some u->h'.get? b=some u) (hp:h.objs.size<=a) (hn:H a=none):Un fs ex H (upd H a o) h h' where
 keep:=fun b u q _ _ _=>k b u q
 slot:=fun b u q _ _ _=>⟨u.slots,k b u q⟩
 free:=fun b u q n _=>by rw [Zat (Nat.ne_of_lt (Nat.lt_of_lt_of_le (Heap.lt_size q) hp))];exact n
 there:=fun b u q _=>⟨u,k b u q⟩
 tups:=fun b xs q=>by rw [Zat (Zbx q hn)];exact q
 frzs:=fun b u xs q=>by rw [Zat (Zbx q hn)];exact q
 tbls:=fun b ps q=>⟨#[],by rw [Zat (Zbx q hn),q];simp⟩
theorem Un.write (mu:Mut (H x)) (he:e=x\/H e=some (.own x)) (k:∀ b u,b≠e->h.get? b=some u->h'.get? b=some u) (heo:∃ u,h'.get? e=some u):Un fs ex H (upd H x o) h h':=by
 have hx:∀ b,H b=none->b≠x:=fun b n z=>by subst z;rw [n] at mu;exact mu
 have hb:∀ b,H b=none->b≠e:=fun b n z=>by
  subst z
  rcases he with r|r
  ·exact hx b n r
  ·rw [n] at r;cases r
 have hm:∀ b u,H b=some u->¬ Mut (some u)->b≠x:=fun b u q nm z=>by subst z;rw [q] at mu;exact nm mu
 refine ⟨fun b u q n _ _=>k b u (hb b n) q,fun b u q n _ _=>⟨u.slots,k b u (hb b n) q⟩,fun b u q n _=>by rw [Zat (hx b n)];exact n,fun b u q _=>?_,
  fun b xs q=>by rw [Zat (hm b _ q fun z=>z)];exact q,fun b u xs q=>by rw [Zat (hm b _ q fun z=>z)];exact q,fun b ps q=>⟨#[],by rw [Zat (hm b _ q fun z=>z),q];simp⟩⟩
 by_cases hbe:b=e
 ·subst hbe;exact heo
 ·exact ⟨u,k b u hbe q⟩
end
noncomputable def trk (h:Heap) (H:Hp):List Addr:=(List.range h.objs.size).filter fun a=>(H a).isSome
noncomputable def hidT (h:Heap) (H:Hp):Heap:=PySem.W.hideAll h (trk h H)
theorem ZkF (h:Heap) (H:Hp):(hidT h H).objs.size=h.objs.size:=PySem.W.hideAll_size _ _
theorem Zl6 {h:Heap} {H:Hp} {b:Addr} {o:Obj} (e:h.get? b=some o) (n:H b=none):(hidT h H).get? b=some o :=
 PySem.W.hideAll_get _ e fun hm=>by
  have q:(H b).isSome=true:=(mem_filter.mp hm).2
  rw [n] at q;simp at q
theorem ZnW {h : Heap} {H : Hp} {b : Addr} {o : Obj} (e : (hidT h H).get? b = some o) : h.get? b = some o /\ H b = none := by
  have e' : h.get? b = some o := PySem.W.of_hideAll (trk h H) e
  refine ⟨e', ?_⟩
  cases q : H b with
  | none => rfl
  | some x =>
    have hm : b ∈ trk h H := mem_filter.mpr ⟨mem_range.mpr (Heap.lt_size e'), by simp [q]⟩
    have z : (hidT h H).get? b = none := PySem.W.hideAll_none (trk h H) hm
    rw [z] at e; cases e
noncomputable def Zon (g h:Heap) (L:Addr):List (Addr×Obj):=(List.range h.objs.size).filterMap fun a=>if a=L\/(g.get? a).isSome=true then none else (h.get? a).map fun o=>(a,o)
noncomputable def rest (g h:Heap) (L d:Addr):List (Addr×Obj):=(Zon g h L).filter fun p=>decide (p.1≠d)
end L2
namespace L2
open PySem PySem.Spec PyProof.Rows
structure Mod (K:PySem.W.Frag) (mg:Str->Option Value) (base:Heap):Prop where
 kin:K.In base
 glob:base.Ns mainGlobals mg
 blt:∃ mb,base.Ns builtinsNs mb/\∀ x:Str,x≠"__name__"->mb x=bootBuiltins x
 nolimit:base.NoLimit
structure Cx where
 prog:Program
 w:World
 K:PySem.W.Frag
 mg:Str->Option Value
 base:Heap
 A:Around
 N:List Str
 s₀:Shared
 H₀:Hp
 env:Env
 outer:List Env
 stack:List Env
 ex:List Addr
 fn:Str->Bool
 calm:Bool
 pn:List (Addr×Obj)
 xe:Value->Shared->Prop
noncomputable def frs (l:List Env):List Addr:=l.filterMap (·.frame)
noncomputable abbrev Cx.fs (X:Cx):List Addr:=frs X.outer
noncomputable def Vis (sc:Scope) (x:Str):Prop:=sc.names.lookup x=some .local\/sc.names.lookup x=some .cell\/sc.names.lookup x=some .free
noncomputable def Loc (sc:Scope) (x:Str):Prop:=sc.names.lookup x=some .local\/sc.names.lookup x=some .cell
noncomputable def Look (env:Env) (h:Heap) (m:Str->Option Value) (x:Str) (u:Value):Prop :=
 (env.kindOf x=some .local/\m x=some u)\/((env.kindOf x=some .cell\/env.kindOf x=some .free)/\∃ c,env.cells.lookup x=some c/\h.IsCell c (some u))
structure Cx.Ok (X:Cx):Prop where
 mod:Mod X.K X.mg X.base
 kind:X.env.scope.kind=.function
 glob:X.env.globals=mainGlobals
 blt:X.env.builtins=builtinsNs
 above:X.s₀.heap.objs.size<=X.env.locals
 inj:∀ x y c,X.env.cells.lookup x=some c->X.env.cells.lookup y=some c->x=y
 has:∀ x,(X.env.kindOf x=some .cell\/X.env.kindOf x=some .free)->∃ c,X.env.cells.lookup x=some c
 cab:∀ x c,X.fn x=true->X.env.cells.lookup x=some c->X.s₀.heap.objs.size<=c
 hd:X.calm=true->X.A.handled=none
 frames:X.A.frames=some X.stack
 stk:X.stack=X.outer\/(X.stack=X.env::X.outer/\X.env.frame=some X.env.locals)
 exf:∀ b∈X.ex,b≠X.env.locals/\∀ x c,X.env.cells.lookup x=some c->c≠b
 bs:∀ b o,X.base.get? b=some o->X.s₀.heap.get? b=some o/\X.H₀ b=none
 bsz:X.base.objs.size<=X.s₀.heap.objs.size
 noex:∀ b o,X.base.get? b=some o->b∉X.ex
 exfs:∀ b∈X.ex,b∉X.fs
 funs:X.s₀.heap.FunFrames X.base X.outer
 frf:∀ b∈X.fs,X.H₀ b=none
structure Inv (X:Cx) (pins:List (Addr×Obj)) (σ:List (Option V)) (H:Hp) (s:Shared):Prop where
 ok:X.Ok
 os:s.os=X.s₀.os
 bare:AllBare s.gens
 base:Un X.fs X.ex X.H₀ H X.s₀.heap s.heap
 loc:∃ m,s.heap.Ns X.env.locals m/\∀ (i:Nat) (x:Str) (v:V),X.N[i]?=some x->σ[i]?=some (some v)->Vis X.env.scope x->∃ u,RelV v u/\Look X.env s.heap m x u
 cell:∀ x c,X.env.cells.lookup x=some c->∃ v,s.heap.IsCell c v
 free:H X.env.locals=none
 freeC:∀ x c,X.env.cells.lookup x=some c->H c=none
 pin:∀ p∈X.pn++pins,s.heap.get? p.1=some p.2/\H p.1=none/\p.1≠X.env.locals/\p.1∉X.fs/\∀ v,p.2.data≠.cell v
 hok:HOk X.prog X.w H s.heap
 len:σ.length=X.N.length
section
variable {X:Cx} {pins:List (Addr×Obj)} {σ:List (Option V)} {H H':Hp} {s:Shared} {h':Heap}
theorem Cx.Ok.nofr (ok:X.Ok) {b:Addr} {o:Obj} (e:X.base.get? b=some o):b∉X.fs:=fun hb=>by
 have:=(ok.funs.mem hb).1
 rw [e] at this;cases this
theorem Inv.bs (I:Inv X pins σ H s):∀ b o,X.base.get? b=some o->s.heap.get? b=some o/\H b=none:=fun b o e =>
 ⟨I.base.keep b o (I.ok.bs b o e).1 (I.ok.bs b o e).2 (I.ok.nofr e) (I.ok.noex b o e),I.base.free b o (I.ok.bs b o e).1 (I.ok.bs b o e).2 (I.ok.noex b o e)⟩
theorem Inv.bk (I:Inv X pins σ H s):∀ b o,X.base.get? b=some o->s.heap.get? b=some o:=fun b o e=>(I.bs b o e).1
theorem Inv.mod (I:Inv X pins σ H s):Mod X.K X.mg X.base:=I.ok.mod
theorem Inv.kIn (I:Inv X pins σ H s):X.K.In s.heap:=I.ok.mod.kin.keeps I.bk
theorem Inv.lt (I:Inv X pins σ H s):X.env.locals < s.heap.objs.size:=let ⟨_,hn,_⟩:=I.loc;hn.lt
theorem Inv.sz (I:Inv X pins σ H s):X.s₀.heap.objs.size<=s.heap.objs.size:=Nat.le_trans I.ok.above (Nat.le_of_lt I.lt)
theorem Inv.nofs (I:Inv X pins σ H s) {a:Addr} (h:s.heap.objs.size<=a):a∉X.fs:=fun hb=>by
 obtain ⟨_,o,ho,_⟩:=I.ok.funs.mem hb
 exact absurd (Nat.lt_of_lt_of_le (Heap.lt_size ho) (Nat.le_trans I.sz h)) (Nat.lt_irrefl _)
theorem Inv.cne (I:Inv X pins σ H s):∀ x c,X.env.cells.lookup x=some c->c≠X.env.locals:=fun x c e z=>by
 obtain ⟨v,o,ho,hd⟩:=I.cell x c e
 obtain ⟨m,⟨o',es,ep,ho',hd',_⟩,_⟩:=I.loc
 rw [z,ho'] at ho;cases ho;rw [hd'] at hd;cases hd
theorem Inv.funs (I : Inv X pins σ H s) : s.heap.FunFrames X.base X.outer := by
  have all : ∀ (l : List Env), (∀ b ∈ frs l, b ∈ X.fs) -> X.s₀.heap.FunFrames X.base l -> s.heap.FunFrames X.base l := by
    intro l
    induction l with
    | nil => intro _ _; trivial
    | cons env r ih =>
      intro hs hl
      obtain ⟨hk, ⟨L, o, hf, hn, ho, hd⟩, hr⟩ := hl
      have hL : L ∈ X.fs := hs L (by unfold frs; rw [filterMap_cons, hf]; exact mem_cons_self)
      obtain ⟨sl, e⟩ := I.base.slot L o ho (I.ok.frf L hL) hL fun z => I.ok.exfs L z hL
      exact ⟨hk, ⟨L, _, hf, hn, e, hd⟩, ih (fun b hb => hs b (by unfold frs; rw [filterMap_cons, hf]; exact mem_cons_of_mem _ hb)) hr⟩
  exact all X.outer (fun _ hb => hb) I.ok.funs
theorem Inv.stack (I:Inv X pins σ H s):s.heap.FunFrames X.base X.stack:=by
 rcases I.ok.stk with e|⟨e,hf⟩
 ·rw [e];exact I.funs
 ·rw [e]
  obtain ⟨m,hn,_⟩:=I.loc
  refine .cons (by rw [I.ok.kind];decide) hf hn ?_ I.funs
  exact Heap.get?_none_of_le (Nat.le_trans I.ok.bsz I.ok.above)
theorem Inv.stkSub (I:Inv X pins σ H s):∀ b∈frs X.stack,b∈X.env.locals::X.fs:=fun b hb=>by
 rcases I.ok.stk with e|⟨e,hf⟩
 ·rw [e] at hb;exact mem_cons_of_mem _ hb
 ·rw [e] at hb
  unfold frs at hb
  rw [filterMap_cons,hf] at hb
  exact hb
theorem Inv.stkFree (I:Inv X pins σ H s):∀ b∈frs X.stack,H b=none:=fun b hb=>by
 rcases mem_cons.mp (I.stkSub b hb) with e|hb
 ·rw [e];exact I.free
 ·obtain ⟨_,o,ho,_⟩:=I.ok.funs.mem hb
  exact I.base.free b o ho (I.ok.frf b hb) fun z=>I.ok.exfs b z hb
theorem Inv.step {g':Array GenState} {t':Nat} {d':Drawn} {ch:List Addr} (I:Inv X pins σ H s)
  (hch:∀ b∈ch,(b∈X.ex\/X.s₀.heap.objs.size<=b)/\b≠X.env.locals/\(∀ x c,X.env.cells.lookup x=some c->c≠b)/\∀ p∈X.pn++pins,p.1≠b)
  (keep:∀ b o,b≠X.env.locals->b∉X.fs->b∉ch->s.heap.get? b=some o->H b=none->h'.get? b=some o)
  (slot:∀ b o,b≠X.env.locals->b∈X.fs->b∉ch->s.heap.get? b=some o->H b=none->∃ sl,h'.get? b=some { o with slots:=sl }) (free:∀ b o,b∉ch->s.heap.get? b=some o->H b=none->H' b=none)
  (there:∀ b o,b∉ch->s.heap.get? b=some o->∃ o',h'.get? b=some o')
  (tups:∀ b xs,H b=some (.tup xs)->H' b=some (.tup xs)) (frzs:∀ b o u,H b=some (.frz o u)->H' b=some (.frz o u)) (tbls:∀ b ps,H b=some (.tbl ps)->∃ more,H' b=some (.tbl (ps++more)))
  (ns:∀ m,s.heap.Ns X.env.locals m->h'.Ns X.env.locals m) (hok:HOk X.prog X.w H' h') (hg:AllBare g') :
  Inv X pins σ H' { s with heap:=h',gens:=g',drawn:=d',toks:=t' }:=by
 have neL:∀ b o,X.s₀.heap.get? b=some o->b≠X.env.locals:=fun b o e=>Nat.ne_of_lt (Nat.lt_of_lt_of_le (Heap.lt_size e) I.ok.above)
 have neC:∀ b o,X.s₀.heap.get? b=some o->b∉X.ex->b∉ch:=fun b o e hx hb=>by
  rcases (hch b hb).1 with z|z
  ·exact hx z
  ·exact absurd (Nat.lt_of_lt_of_le (Heap.lt_size e) z) (Nat.lt_irrefl _)
 have cellK:∀ x c,X.env.cells.lookup x=some c->∀ v,s.heap.IsCell c v->h'.IsCell c v:=fun x c e v ⟨o,ho,hd⟩=>by
  have nch:c∉ch:=fun z=>(hch c z).2.2.1 x c e rfl
  by_cases hc:c∈X.fs
  ·obtain ⟨sl,q⟩:=slot c o (I.cne x c e) hc nch ho (I.freeC x c e)
   exact ⟨_,q,hd⟩
  ·exact ⟨o,keep c o (I.cne x c e) hc nch ho (I.freeC x c e),hd⟩
 refine ⟨I.ok,I.os,hg,⟨fun b o e n hb hx=>?_,fun b o e n hb hx=>?_,fun b o e n hx=>?_,fun b o e hx=>?_,fun b xs e=>tups b xs (I.base.tups b xs e),fun b o xs e=>frzs b o xs (I.base.frzs b o xs e),fun b ps e=>?_⟩,?_,fun x c e=>?_,?_,fun x c e=>?_,fun p hp=>?_,hok,I.len⟩
 ·exact keep b o (neL b o e) hb (neC b o e hx) (I.base.keep b o e n hb hx) (I.base.free b o e n hx)
 ·obtain ⟨sl,e1⟩:=I.base.slot b o e n hb hx
  obtain ⟨sl',e2⟩:=slot b _ (neL b o e) hb (neC b o e hx) e1 (I.base.free b o e n hx)
  exact ⟨sl',e2⟩
 ·obtain ⟨o',e1⟩:=I.base.there b o e hx
  exact free b o' (neC b o e hx) e1 (I.base.free b o e n hx)
 ·obtain ⟨o',e1⟩:=I.base.there b o e hx
  exact there b o' (neC b o e hx) e1
 ·obtain ⟨m1,e1⟩:=I.base.tbls b ps e
  obtain ⟨m2,e2⟩:=tbls b _ e1
  exact ⟨m1++m2,by rw [e2,Array.append_assoc]⟩
 ·obtain ⟨m,hn,hl⟩:=I.loc
  refine ⟨m,ns m hn,fun i x v e1 e2 e3=>?_⟩
  obtain ⟨u,r,l⟩:=hl i x v e1 e2 e3
  refine ⟨u,r,?_⟩
  rcases l with l|⟨k,c,e,z⟩
  ·exact .inl l
  ·exact .inr ⟨k,c,e,cellK x c e _ z⟩
 ·obtain ⟨v,z⟩:=I.cell x c e
  exact ⟨v,cellK x c e v z⟩
 ·obtain ⟨m,⟨o,_,_,ho,_⟩,_⟩:=I.loc
  exact free _ o (fun z=>(hch _ z).2.1 rfl) ho I.free
 ·obtain ⟨v,o,ho,hd⟩:=I.cell x c e
  exact free c o (fun z=>(hch c z).2.2.1 x c e rfl) ho (I.freeC x c e)
 ·obtain ⟨e,n,ne,nf,d⟩:=I.pin p hp
  have nch:p.1∉ch:=fun z=>(hch p.1 z).2.2.2 p hp rfl
  exact ⟨keep p.1 p.2 ne nf nch e n,free p.1 p.2 nch e n,ne,nf,d⟩
theorem Inv.un {t':Nat} (I:Inv X pins σ H s) (u:Un X.fs [] H H' s.heap h') (hok:HOk X.prog X.w H' h'):Inv X pins σ H' { s with heap:=h',toks:=t' }:=by
 obtain ⟨m,⟨o,es,ep,ho,r⟩,_⟩:=id I.loc
 obtain ⟨sl,hL⟩:=u.any ho I.free (by simp)
 exact I.step (g':=s.gens) (d':=s.drawn) (ch:=[]) (fun _ z=>nomatch z) (fun b o _ hb _ e n=>u.keep b o e n hb (by simp)) (fun b o _ hb _ e n=>u.slot b o e n hb (by simp)) (fun b o _ e n=>u.free b o e n (by simp)) (fun b o _ e=>u.there b o e (by simp)) u.tups u.frzs u.tbls (fun m' hm=>by
  obtain ⟨o',es',ep',ho',r'⟩:=hm
  rw [ho] at ho';cases ho'
  exact ⟨_,es',ep',hL,r'⟩) hok I.bare
theorem Inv.call {g':Array GenState} {t':Nat} {d':Drawn} {ch:List Addr} (I:Inv X pins σ H s) (u:Un (frs X.stack) ch H H' s.heap h') (hok:HOk X.prog X.w H' h') (hg:AllBare g')
  (hch:∀ b∈ch,(b∈X.ex\/X.s₀.heap.objs.size<=b)/\b≠X.env.locals/\(∀ x c,X.env.cells.lookup x=some c->c≠b)/\∀ p∈X.pn++pins,p.1≠b) :
  Inv X pins σ H' { s with heap:=h',gens:=g',drawn:=d',toks:=t' }:=by
 obtain ⟨m,⟨o,es,ep,ho,r⟩,_⟩:=id I.loc
 obtain ⟨sl,hL⟩:=u.any ho I.free fun z=>(hch _ z).2.1 rfl
 exact I.step (ch:=ch) hch (fun b o hL hb hc e n=>u.keep b o e n (fun z=>(mem_cons.mp (I.stkSub b z)).elim hL hb) hc) (fun b o _ _ hc e n=>u.any e n hc) (fun b o hc e n=>u.free b o e n hc) (fun b o hc e=>u.there b o e hc) u.tups u.frzs u.tbls (fun m' hm=>by
  obtain ⟨o',es',ep',ho',r'⟩:=hm
  rw [ho] at ho';cases ho'
  exact ⟨_,es',ep',hL,r'⟩) hok hg
theorem Inv.turned {t':Nat} {it:Addr} (I:Inv X pins σ H s) (k:∀ b o,b≠it->s.heap.get? b=some o->h'.get? b=some o) (hn:H it=none) (hL:it≠X.env.locals)
  (h1:it∈X.ex\/X.s₀.heap.objs.size<=it) (h2:∀ x c,X.env.cells.lookup x=some c->c≠it) (h3:∀ p∈X.pn++pins,p.1≠it):Inv X pins σ H { s with heap:=h',toks:=t' }:=by
 have nit:∀ b u,H b=some u->b≠it:=fun b u e z=>by rw [z,hn] at e;cases e
 refine I.step (g':=s.gens) (d':=s.drawn) (ch:=[it]) (fun b hb=>?_) (fun b o _ _ hc e _=>k b o (fun z=>hc (by simp [z])) e) (fun b o _ _ hc e _=>⟨o.slots,k b o (fun z=>hc (by simp [z])) e⟩) (fun _ _ _ _ n=>n)
  (fun b o hc e=>⟨o,k b o (fun z=>hc (by simp [z])) e⟩) (fun _ _ e=>e) (fun _ _ _ e=>e) (fun b ps e=>⟨#[],by rw [e];simp⟩) (fun m hm=>?_) (fun b u e=>?_) I.bare
 ·have e:b=it:=by simpa using hb
  subst e
  exact ⟨h1,hL,h2,h3⟩
 ·obtain ⟨o,es,ep,ho,r⟩:=hm
  exact ⟨o,es,ep,k _ o (Ne.symm hL) ho,r⟩
 ·refine (I.hok b u e).stay (fun c v hc q=>k c v ?_ q) (fun _ q=>q) fun _ _ q=>q
  rcases hc with z|z
  ·rw [z];exact nit b u e
  ·exact nit c _ z
theorem Inv.tok (I:Inv X pins σ H s) (t:Nat):Inv X pins σ H { s with toks:=t }:=I.un (h':=s.heap) (t':=t) Un.refl I.hok
theorem Inv.kept {t':Nat} (I:Inv X pins σ H s) (k:∀ b u,s.heap.get? b=some u->h'.get? b=some u):Inv X pins σ H { s with heap:=h',toks:=t' }:=I.un (Un.kept k) (I.hok.kept k)
theorem Inv.laid {a:Addr} {o:HO} {t':Nat} (I:Inv X pins σ H s) (k:∀ b u,s.heap.get? b=some u->h'.get? b=some u) (hp:s.heap.objs.size<=a) (new:ObjOk X.prog X.w (upd H a o) h' a o) :
  Inv X pins σ (upd H a o) { s with heap:=h',toks:=t' }:=I.un (Un.laid k hp (I.hok.fresh hp)) (I.hok.laid k hp new)
theorem Inv.write {x e:Addr} {o:HO} {t':Nat} (I:Inv X pins σ H s) (mu:Mut (H x)) (he:e=x\/H e=some (.own x)) (k:∀ b u,b≠e->s.heap.get? b=some u->h'.get? b=some u) (heo:∃ u,h'.get? e=some u)
  (new:ObjOk X.prog X.w (upd H x o) h' x o):Inv X pins σ (upd H x o) { s with heap:=h',toks:=t' }:=I.un (Un.write mu he k heo) (I.hok.write mu he k heo new)
theorem Inv.pins_of {pins':List (Addr×Obj)} (I:Inv X pins σ H s) (h:∀ p∈pins',s.heap.get? p.1=some p.2/\H p.1=none/\p.1≠X.env.locals/\p.1∉X.fs/\∀ v,p.2.data≠.cell v):Inv X pins' σ H s :=
 ⟨I.ok,I.os,I.bare,I.base,I.loc,I.cell,I.free,I.freeC,fun p hp=>(mem_append.mp hp).elim (fun z=>I.pin p (mem_append_left _ z)) (h p),I.hok,I.len⟩
theorem Zgu {N:List Str} (hN:N.Nodup) {i j:Nat} {x:Str} (a:N[i]?=some x) (b:N[j]?=some x):i=j:=by
 obtain ⟨h1,e1⟩:=List.getElem?_eq_some_iff.mp a
 obtain ⟨h2,e2⟩:=List.getElem?_eq_some_iff.mp b
 exact (getElem_inj hN).mp (e1.trans e2.symm)
theorem Zfe {M:Model} {A:Around} {E:Value->Shared->Prop} {i:Nat} {x:Str} {v:V} {u:Value} {Q:Unit->Shared->Prop} (I:Inv X pins σ H s) (hN:X.N.Nodup) (hi:X.N[i]?=some x) (hx:Loc X.env.scope x) (r:RelV v u)
  (h:∀ s',Inv X pins (σ.set i (some v)) H s'->(∃ a,Heap.SameBut a s.heap s'.heap/\(a=X.env.locals\/X.env.cells.lookup x=some a))->Q () s') (hf:X.fn x=true\/X.env.scope.names.lookup x=some .local:=by first|exact .inl rfl|exact .inr rfl|assumption):wpAny M A (storeName X.env x u) Q E s:=by
 obtain ⟨m,hn,hl⟩:=id I.loc
 have hcls:(X.env.scope.kind == .class || (X.env.scope.kind == .module && X.env.locals != X.env.globals))=false:=by rw [I.ok.kind];rfl
 have hiσ:i < σ.length:=by rw [I.len];exact (List.getElem?_eq_some_iff.mp hi).1
 have cne:=I.cne
 have tracked:∀ {a:Addr} {h':Heap},(∃ o,s.heap.get? a=some o/\H a=none)->Heap.SameBut a s.heap h'->HOk X.prog X.w H h':=fun {a h'} ha hs b ob e=>by
  obtain ⟨_,_,hfree⟩:=ha
  refine (I.hok b ob e).stay (fun c w' hc q=>(hs.2 c ?_).trans q) (fun _ q=>q) fun _ _ q=>q
  rintro rfl
  rcases hc with rfl|hc
  ·rw [hfree] at e;cases e
  ·rw [hfree] at hc;cases hc
 rcases hx with hk|hk
 ·refine wpAny_storeName_local hk hn (fun h' hn' hs=>?_) hcls
  obtain ⟨oL,_,_,hoL,_⟩:=id hn
  refine h _ ⟨I.ok,I.os,I.bare,⟨fun b o e n hb hx=>?_,fun b o e n hb hx=>?_,I.base.free,fun b o e hx=>?_,I.base.tups,I.base.frzs,I.base.tbls⟩,⟨_,hn',fun j y v' e1 e2 e3=>?_⟩,fun y c e=>?_,I.free,I.freeC,fun p hp=>?_,tracked ⟨oL,hoL,I.free⟩ hs,by simpa using I.len⟩ ⟨_,hs,.inl rfl⟩
  ·exact (hs.2 b (Nat.ne_of_lt (Nat.lt_of_lt_of_le (Heap.lt_size e) I.ok.above))).trans (I.base.keep b o e n hb hx)
  ·obtain ⟨sl,e1⟩:=I.base.slot b o e n hb hx
   exact ⟨sl,(hs.2 b (Nat.ne_of_lt (Nat.lt_of_lt_of_le (Heap.lt_size e) I.ok.above))).trans e1⟩
  ·obtain ⟨o',e1⟩:=I.base.there b o e hx
   exact ⟨o',(hs.2 b (Nat.ne_of_lt (Nat.lt_of_lt_of_le (Heap.lt_size e) I.ok.above))).trans e1⟩
  ·by_cases hj:j=i
   ·subst hj
    rw [hi] at e1;cases e1
    rw [getElem?_set_self hiσ] at e2
    cases e2
    exact ⟨u,r,.inl ⟨hk,by simp⟩⟩
   ·rw [getElem?_set_ne (Ne.symm hj)] at e2
    obtain ⟨u',r',q⟩:=hl j y v' e1 e2 e3
    refine ⟨u',r',?_⟩
    rcases q with ⟨k,e⟩|⟨k,c,e,z⟩
    ·refine .inl ⟨k,?_⟩
     have:y≠x:=fun e=>hj (Zgu hN e1 (e▸hi))
     simp [this,e]
    ·exact .inr ⟨k,c,e,z.sameBut hs (cne y c e)⟩
  ·obtain ⟨w',z⟩:=I.cell y c e
   exact ⟨w',z.sameBut hs (cne y c e)⟩
  ·obtain ⟨e,n,ne,nf,d⟩:=I.pin p hp
   exact ⟨(hs.2 p.1 ne).trans e,n,ne,nf,d⟩
 ·have hfn:X.fn x=true:=by
   rcases hf with z|z
   ·exact z
   ·rw [z] at hk;cases hk
  obtain ⟨c,hc⟩:=I.ok.has x (.inl hk)
  obtain ⟨w',z⟩:=I.cell x c hc
  refine wpAny_storeName_cell I.ok.kind hk hc z (fun h' hc' hs=>?_)
  obtain ⟨oc,hoc,hocd⟩:=id z
  refine h { s with heap:=h' } ⟨I.ok,I.os,I.bare,⟨fun b o e n hb hx=>?_,fun b o e n hb hx=>?_,I.base.free,fun b o e hx=>?_,I.base.tups,I.base.frzs,I.base.tbls⟩,⟨m,hn.sameBut hs (Ne.symm (cne x c hc)),fun j y v' e1 e2 e3=>?_⟩,fun y c' e=>?_,I.free,I.freeC,fun p hp=>?_,tracked ⟨oc,hoc,I.freeC x c hc⟩ hs,by simpa using I.len⟩ ⟨c,hs,.inr hc⟩
  ·exact (hs.2 b (Nat.ne_of_lt (Nat.lt_of_lt_of_le (Heap.lt_size e) (I.ok.cab x c hfn hc)))).trans (I.base.keep b o e n hb hx)
  ·obtain ⟨sl,e1⟩:=I.base.slot b o e n hb hx
   exact ⟨sl,(hs.2 b (Nat.ne_of_lt (Nat.lt_of_lt_of_le (Heap.lt_size e) (I.ok.cab x c hfn hc)))).trans e1⟩
  ·obtain ⟨o',e1⟩:=I.base.there b o e hx
   exact ⟨o',(hs.2 b (Nat.ne_of_lt (Nat.lt_of_lt_of_le (Heap.lt_size e) (I.ok.cab x c hfn hc)))).trans e1⟩
  ·by_cases hj:j=i
   ·subst hj
    rw [hi] at e1;cases e1
    rw [getElem?_set_self hiσ] at e2
    cases e2
    exact ⟨u,r,.inr ⟨.inl hk,c,hc,hc'⟩⟩
   ·rw [getElem?_set_ne (Ne.symm hj)] at e2
    obtain ⟨u',r',q⟩:=hl j y v' e1 e2 e3
    refine ⟨u',r',?_⟩
    rcases q with q|⟨k,c',e,z'⟩
    ·exact .inl q
    ·refine .inr ⟨k,c',e,z'.sameBut hs ?_⟩
     rintro rfl
     exact hj (Zgu hN e1 (I.ok.inj _ _ _ e hc▸hi))
  ·by_cases hcc:c'=c
   ·subst hcc;exact ⟨_,hc'⟩
   ·obtain ⟨w2,z2⟩:=I.cell y c' e
    exact ⟨w2,z2.sameBut hs hcc⟩
  ·obtain ⟨e,n,ne,nf,d⟩:=I.pin p hp
   refine ⟨(hs.2 p.1 ?_).trans e,n,ne,nf,d⟩
   intro q
   rw [q,hoc] at e
   have q':oc=p.2:=Option.some.inj e
   exact d w' (by rw [<-q'];exact hocd)
theorem Zd7 {M:Model} {A:Around} {E:Value->Shared->Prop} {i:Nat} {x:Str} {v:V} {u:Value} {Q:Unit->Shared->Prop} (I:Inv X pins σ H s) (hN:X.N.Nodup) (hi:X.N[i]?=some x) (hx:Loc X.env.scope x) (r:RelV v u)
  (h:∀ s',Inv X pins (σ.set i (some v)) H s'->Q () s') (hf:X.fn x=true\/X.env.scope.names.lookup x=some .local:=by first|exact .inl rfl|exact .inr rfl|assumption):wpAny M A (storeName X.env x u) Q E s :=
 Zfe I hN hi hx r (fun s' I' _=>h s' I') hf
theorem Inv.call' {s':Shared} {ch:List Addr} (I:Inv X pins σ H s) (ho:s'.os=s.os) (u:Un (frs X.stack) ch H H' s.heap s'.heap) (hok:HOk X.prog X.w H' s'.heap) (hg:AllBare s'.gens)
  (hch:∀ b∈ch,(b∈X.ex\/X.s₀.heap.objs.size<=b)/\b≠X.env.locals/\(∀ x c,X.env.cells.lookup x=some c->c≠b)/\∀ p∈X.pn++pins,p.1≠b):Inv X pins σ H' s':=by
 obtain ⟨h',g',d',t',o'⟩:=s'
 have e:o'=s.os:=ho
 subst e
 exact I.call (g':=g') (t':=t') (d':=d') u hok hg hch
end
noncomputable abbrev XK:=Value->Option Addr->Hp->Prop
noncomputable abbrev St:=List (Option V)
noncomputable abbrev VK:=V->Hp->Prop
noncomputable abbrev TE:=St->Hp->VK->Prop
noncomputable abbrev TT:=St->Hp->(Bool->Hp->Prop)->Prop
noncomputable abbrev TA:=St->Hp->(List V->Hp->Prop)->Prop
structure Ends where
 nx:St->Hp->Prop
 rt:VK
 bk:St->Hp->Prop:=fun _ _=>False
 ct:St->Hp->Prop:=fun _ _=>False
noncomputable abbrev TS:=Ends->St->Hp->Prop
noncomputable def EP (X:Cx) (pins:List (Addr×Obj)) (σ:St) (Q:VK) (u:Value) (s':Shared):Prop:=∃ v H',Inv X pins σ H' s'/\RelV v u/\Q v H'
noncomputable def TP (X:Cx) (pins:List (Addr×Obj)) (σ:St) (Q:Bool->Hp->Prop) (b:Bool) (s':Shared):Prop:=∃ H',Inv X pins σ H' s'/\Q b H'
noncomputable def AP (X:Cx) (pins:List (Addr×Obj)) (σ:St) (Q:List V->Hp->Prop) (us:List Value) (s':Shared):Prop:=∃ vs H',Inv X pins σ H' s'/\Vals vs us/\Q vs H'
noncomputable def SP (X:Cx) (pins:List (Addr×Obj)) (D:Ends) (f:Flow) (s':Shared):Prop :=
 match f with
 | .next=>∃ σ' H',Inv X pins σ' H' s'/\D.nx σ' H'
 | .brk=>∃ σ' H',Inv X pins σ' H' s'/\D.bk σ' H'
 | .cont=>∃ σ' H',Inv X pins σ' H' s'/\D.ct σ' H'
 | .ret u=>∃ v σ' H',Inv X pins σ' H' s'/\RelV v u/\D.rt v H'
noncomputable def PE (X:Cx) (e:Expr) (t:TE):Prop :=
 ∀ (pins:List (Addr×Obj)) (s:Shared) (σ:St) (H:Hp) (Q:VK),Inv X pins σ H s->t σ H Q->wpAny (model X.prog X.w) X.A (eval e X.env) (EP X pins σ Q) X.xe s
noncomputable def PT (X:Cx) (e:Expr) (t:TT):Prop :=
 ∀ (pins:List (Addr×Obj)) (s:Shared) (σ:St) (H:Hp) (Q:Bool->Hp->Prop),Inv X pins σ H s->t σ H Q->wpAny (model X.prog X.w) X.A (isTrue e X.env (eval e X.env)) (TP X pins σ Q) X.xe s
noncomputable def PW (X:Cx) (e:Expr) (t:TT):Prop :=
 ∀ (whole:Sem Value) (pins:List (Addr×Obj)) (s:Shared) (σ:St) (H:Hp) (Q:Bool->Hp->Prop),Inv X pins σ H s->t σ H Q->wpAny (model X.prog X.w) X.A (isTrue e X.env whole) (TP X pins σ Q) X.xe s
theorem PW.pt {X:Cx} {e:Expr} {t:TT} (h:PW X e t):PT X e t:=h _
noncomputable def PA (X:Cx) (es:List Expr) (t:TA):Prop :=
 ∀ (pos:Pos) (pins:List (Addr×Obj)) (s:Shared) (σ:St) (H:Hp) (Q:List V->Hp->Prop),Inv X pins σ H s->t σ H Q->wpAny (model X.prog X.w) X.A (spliced (backTo pos (starEach es X.env))) (AP X pins σ Q) X.xe s
noncomputable def PS (X:Cx) (st:Stmt) (t:TS):Prop :=
 ∀ (pins:List (Addr×Obj)) (s:Shared) (σ:St) (H:Hp) (D:Ends),Inv X pins σ H s->t D σ H->wpAny (model X.prog X.w) X.A (exec st X.env) (SP X pins D) X.xe s
noncomputable def PSs (X:Cx) (st:List Stmt) (t:TS):Prop :=
 ∀ (pins:List (Addr×Obj)) (s:Shared) (σ:St) (H:Hp) (D:Ends),Inv X pins σ H s->t D σ H->wpAny (model X.prog X.w) X.A (execs st X.env) (SP X pins D) X.xe s
theorem thn {α:Type} {t:Sem α} {Q Q':α->Shared->Prop} {M:Model} {A:Around} {E:Value->Shared->Prop} {s:Shared} (h:wpAny M A t Q E s) (hQ:∀ a s,Q a s->Q' a s):wpAny M A t Q' E s:=wpAny_mono h hQ fun _ _ x=>x
end L2
namespace L2
open PySem PySem.Spec PyProof.Rows
section
variable {X:Cx}
theorem bin {a b:Expr} {ta tb:TE} (ha:PE X a ta) (hb:PE X b tb) {pins:List (Addr×Obj)} {s:Shared} {σ:St} {H:Hp} {R:V->V->Hp->Prop} (I:Inv X pins σ H s) (h:ta σ H fun x H1=>tb σ H1 fun y H2=>R x y H2)
  {α:Type} {Q:α->Shared->Prop} {f:Value->Value->Sem α}
  (hf:∀ v u s2 x y H2,Inv X pins σ H2 s2->RelV x v->RelV y u->R x y H2->wpAny (model X.prog X.w) X.A (f v u) Q X.xe s2) :
  wpAny (model X.prog X.w) X.A (eval a X.env) (fun v s₁=>wpAny (model X.prog X.w) X.A (eval b X.env) (fun u s₂=>wpAny (model X.prog X.w) X.A (f v u) Q X.xe s₂) X.xe s₁) X.xe s:=by
 refine thn (ha pins s σ H _ I h) fun v s1 ⟨x,H1,I1,r1,q1⟩=>?_
 refine thn (hb pins s1 σ H1 _ I1 q1) fun u s2 ⟨y,H2,I2,r2,q2⟩=>?_
 exact hf v u s2 x y H2 I2 r1 r2 q2
noncomputable def tVar (i:Nat):TE:=fun σ H Q=>∃ v,σ[i]?=some (some v)/\Q v H
noncomputable def tC (v:V):TE:=fun _ H Q=>Q v H
theorem pe_var {i:Nat} {x:Str} {pos:Pos} (hN:X.N[i]?=some x) (hv:Vis X.env.scope x) (hd:(x == ("__debug__":Str))=false:=by decide) (hcd:(x == ("__classdict__":Str))=false:=by decide):PE X (.Name x pos) (tVar i):=by
 intro pins s σ H Q I h
 obtain ⟨v,e,h⟩:=h
 obtain ⟨m,hn,hl⟩:=I.loc
 obtain ⟨u,r,l⟩:=hl i x v hN e hv
 have fin:EP X pins σ Q u s:=⟨v,H,I,r,h⟩
 rcases l with ⟨hk,hm⟩|⟨hk,c,hc,hcell⟩
 ·exact wpAny_Name (wpAny_loadName_local I.ok.kind hk hn hm fin) hd
 ·rcases hk with hk|hk
  ·exact wpAny_Name (wpAny_loadName_cell I.ok.kind hk hc hcell fin) hd
  ·exact wpAny_Name (wpAny_loadName_free I.ok.kind hk hc hcell fin hcd) hd
theorem Zaa {i j pos}:PE X (.Constant (.int i) j pos) (tC (.int i)):=fun _ _ _ H _ I h=>wpAny_Constant_int ⟨.int i,H,I.tok _,⟨_,rfl⟩,h⟩
theorem Zgr {b j pos}:PE X (.Constant (.bool b) j pos) (tC (.bl b)):=fun _ _ _ H _ I h=>Constant_bool ⟨.bl b,H,I,rfl,h⟩
theorem ZbZ {j pos}:PE X (.Constant .none j pos) (tC .non):=fun _ _ _ H _ I h=>Constant_none ⟨.non,H,I,rfl,h⟩
theorem Zak {x j pos}:PE X (.Constant (.str x) j pos) (tC (.str x)):=fun _ _ _ H _ I h=>Calls.Constant_str ⟨.str x,H,I.tok _,⟨_,rfl⟩,h⟩
noncomputable def Gl (X:Cx) (x:Str):Prop:=X.env.kindOf x=some .globalImplicit
theorem ZdI {E:Value->Shared->Prop} {pins:List (Addr×Obj)} {s:Shared} {σ:St} {H:Hp} {x:Str} {u:Value} {pos:Pos} {Q:Value->Shared->Prop} (I:Inv X pins σ H s) (hg:Gl X x) (hm:X.mg x=some u) (h:Q u s)
  (hd:(x == ("__debug__":Str))=false:=by decide):wpAny (model X.prog X.w) X.A (eval (.Name x pos) X.env) Q E s :=
 Calls.Name_function_global I.ok.kind hg (Calls.loadGlobal_global (by rw [I.ok.glob];exact I.mod.glob.keeps I.bk) hm h) hd
theorem Zix {E:Value->Shared->Prop} {pins:List (Addr×Obj)} {s:Shared} {σ:St} {H:Hp} {x:Str} {u:Value} {pos:Pos} {Q:Value->Shared->Prop} (I:Inv X pins σ H s) (hg:Gl X x) (hm:X.mg x=none) (hv:bootBuiltins x=some u) (h:Q u s)
  (hn:x≠"__name__":=by decide) (hd:(x == ("__debug__":Str))=false:=by decide):wpAny (model X.prog X.w) X.A (eval (.Name x pos) X.env) Q E s:=by
 obtain ⟨mb,h1,h2⟩:=I.mod.blt
 exact Calls.Name_function_global I.ok.kind hg (Calls.loadGlobal_builtin (by rw [I.ok.glob];exact I.mod.glob.keeps I.bk) hm (by rw [I.ok.blt];exact h1.keeps I.bk) ((h2 x hn).trans hv) h) hd
theorem Zfq {x:Str} {v:V} {u:Value} {pos:Pos} (hg:Gl X x) (hm:X.mg x=some u) (r:RelV v u) (hd:(x == ("__debug__":Str))=false:=by decide):PE X (.Name x pos) (tC v) :=
 fun _ _ _ H _ I h=>ZdI I hg hm ⟨v,H,I,r,h⟩ hd
theorem Zb0 {x:Str} {v:V} {u:Value} {pos:Pos} (hg:Gl X x) (hm:X.mg x=none) (hv:bootBuiltins x=some u) (r:RelV v u) (hn:x≠"__name__":=by decide) (hd:(x == ("__debug__":Str))=false:=by decide):PE X (.Name x pos) (tC v) :=
 fun _ _ _ H _ I h=>Zix I hg hm hv ⟨v,H,I,r,h⟩ hn hd
variable {a b:Expr} {ta tb:TE} {pos:Pos}
noncomputable def tB (t:TE):TT:=fun σ H Q=>t σ H fun x H1=>∃ c,x=.bl c/\Q c H1
theorem Zf4 {e:Expr} {t:TE} (h:PE X e t) (he:∀ whole,isTrue e X.env whole=(do let v <- whole;standAt e.pos;holding [v] (truthy v)):=by intro _;rfl):PT X e (tB t):=by
 intro pins s σ H Q I hw
 refine isTrue_plain (thn (h pins s σ H _ I hw) fun v s1 ⟨x,H1,I1,r1,q1⟩=>?_) (he _)
 obtain ⟨d,rfl,q⟩:=q1
 cases r1
 exact wpAny_truthy_bool ⟨H1,I1,q⟩
variable {tA tB':TT} {rest:List Expr}
noncomputable def tAnd (t u:TT):TT:=fun σ H Q=>t σ H fun c H1=>if c=true then u σ H1 Q else Q false H1
noncomputable def tOr (t u:TT):TT:=fun σ H Q=>t σ H fun c H1=>if c=true then Q true H1 else u σ H1 Q
noncomputable def tNot (t:TT):TT:=fun σ H Q=>t σ H fun c H1=>Q (!c) H1
theorem ZbX (ha:PT X a tA):PW X (.BoolOp .And [a] pos) tA:=by
 intro wh pins s σ H Q I h
 refine isTrue_and (thn (ha pins s σ H Q I h) fun c s1 e=>?_)
 cases c with
 | true=>exact isTrue_and_nil e
 | false=>exact e
theorem Zeg (ha:PT X a tA):PW X (.BoolOp .Or [a] pos) tA:=by
 intro wh pins s σ H Q I h
 refine isTrue_or (thn (ha pins s σ H Q I h) fun c s1 e=>?_)
 cases c with
 | false=>exact isTrue_or_nil e
 | true=>exact e
theorem ZcP (ha:PT X a tA) (hb:PW X (.BoolOp .And (b::rest) pos) tB'):PW X (.BoolOp .And (a::b::rest) pos) (tAnd tA tB'):=by
 intro wh pins s σ H Q I h
 refine isTrue_and (thn (ha pins s σ H _ I h) fun c s1 ⟨H1,I1,q1⟩=>?_)
 cases c with
 | true=>exact hb wh pins s1 σ H1 Q I1 q1
 | false=>exact ⟨H1,I1,q1⟩
theorem ZeZ (ha:PT X a tA) (hb:PW X (.BoolOp .Or (b::rest) pos) tB'):PW X (.BoolOp .Or (a::b::rest) pos) (tOr tA tB'):=by
 intro wh pins s σ H Q I h
 refine isTrue_or (thn (ha pins s σ H _ I h) fun c s1 ⟨H1,I1,q1⟩=>?_)
 cases c with
 | true=>exact ⟨H1,I1,q1⟩
 | false=>exact hb wh pins s1 σ H1 Q I1 q1
theorem ZjY (ha:PT X a tA):PT X (.UnaryOp .Not a pos) (tNot tA):=by
 intro pins s σ H Q I h
 exact isTrue_not (ha pins s σ H (fun c H1=>Q (!c) H1) I h)
noncomputable def tAndV (ta tb:TE):TE:=fun σ H Q=>ta σ H fun x H1=>∃ c,x=.bl c/\if c=true then tb σ H1 Q else Q (.bl false) H1
noncomputable def tOrV (ta tb:TE):TE:=fun σ H Q=>ta σ H fun x H1=>∃ c,x=.bl c/\if c=true then Q (.bl true) H1 else tb σ H1 Q
theorem ZmH {op} {t:TE} (h:PE X a t):PE X (.BoolOp op [a] pos) t:=fun pins s σ H Q I hw=>BoolOp_one (h pins s σ H Q I hw)
theorem pe_and (ha:PE X a ta) (hb:PE X (.BoolOp .And (b::rest) pos) tb):PE X (.BoolOp .And (a::b::rest) pos) (tAndV ta tb):=by
 intro pins s σ H Q I h
 refine BoolOp_and (thn (ha pins s σ H _ I h) fun v s1 ⟨x,H1,I1,r1,q1⟩=>?_)
 obtain ⟨c,rfl,q1⟩:=q1
 cases r1
 refine wpAny_truthy_bool ?_
 cases c with
 | true=>exact hb pins s1 σ H1 Q I1 q1
 | false=>exact ⟨.bl false,H1,I1,rfl,q1⟩
theorem pe_or (ha:PE X a ta) (hb:PE X (.BoolOp .Or (b::rest) pos) tb):PE X (.BoolOp .Or (a::b::rest) pos) (tOrV ta tb):=by
 intro pins s σ H Q I h
 refine BoolOp_or (thn (ha pins s σ H _ I h) fun v s1 ⟨x,H1,I1,r1,q1⟩=>?_)
 obtain ⟨c,rfl,q1⟩:=q1
 cases r1
 refine wpAny_truthy_bool ?_
 cases c with
 | false=>exact hb pins s1 σ H1 Q I1 q1
 | true=>exact ⟨.bl true,H1,I1,rfl,q1⟩
noncomputable def tIf (t:TT) (ta tb:TE):TE:=fun σ H Q=>t σ H fun c H1=>if c=true then ta σ H1 Q else tb σ H1 Q
theorem Ziq {c:Expr} (hc:PT X c tA) (ha:PE X a ta) (hb:PE X b tb):PE X (.IfExp c a b pos) (tIf tA ta tb):=by
 intro pins s σ H Q I h
 refine wpAny_IfExp (thn (hc pins s σ H _ I h) fun d s1 ⟨H1,I1,q1⟩=>?_)
 cases d with
 | true=>exact ha pins s1 σ H1 Q I1 q1
 | false=>exact hb pins s1 σ H1 Q I1 q1
end
end L2
namespace L2
open PySem PySem.Spec PyProof.Rows
noncomputable def SqL (K:PySem.W.Frag) (H:Hp) (a:Addr) (xs:List V):Prop :=
 Rd H a (.lst xs) \/
  ∃ (o:Obj) (its:Array Value) (n:Nat),K.lookup a=some o/\o.cls=.type "list"/\o.dict=none/\o.data=.seq its n/\its.size<=sizeLine/\Vals xs its.toList
noncomputable def SqT (K:PySem.W.Frag) (H:Hp) (a:Addr) (xs:List V):Prop :=
 Rd H a (.tup xs) \/
  ∃ (o:Obj) (its:Array Value) (n:Nat),K.lookup a=some o/\o.cls=.type "tuple"/\o.data=.seq its n/\its.size<=sizeLine/\Vals xs its.toList
noncomputable def absV:Value->Option V
 | .none=>some .non
 | .bool b=>some (.bl b)
 | .int i _=>some (.int i)
 | .str x _=>some (.str x)
 | .bytes b _=>some (.byt b)
 | .float b _=>some (.flt b)
 | .ref a=>some (.ref a)
 | .type n=>some (.ty n)
 | _=>none
theorem RelV.abs {x:V} {u:Value} (r:RelV x u):absV u=some x:=by
 cases x with
 | non=>cases r;rfl
 | bl _=>cases r;rfl
 | int _=>obtain ⟨t,rfl⟩:=r;rfl
 | str _=>obtain ⟨t,rfl⟩:=r;rfl
 | byt _=>obtain ⟨t,rfl⟩:=r;rfl
 | flt _=>obtain ⟨t,rfl⟩:=r;rfl
 | ref _=>cases r;rfl
 | ty _=>cases r;rfl
theorem RelV.inj {x y:V} {u:Value} (r:RelV x u) (q:RelV y u):x=y:=Option.some.inj (r.abs.symm.trans q.abs)
theorem Vals.inj {xs ys : List V} {us : List Value} (h : Vals xs us) (h' : Vals ys us) : xs = ys := by
  induction h generalizing ys with
  | nil => cases h'; rfl
  | cons r _ ih =>
    cases h' with
    | cons r' t' => rw [r.inj r', ih t']
section
variable {X:Cx} {pins:List (Addr×Obj)} {σ:St} {H:Hp} {s:Shared} {a:Addr} {xs ys:List V}
theorem SqL.of {K:PySem.W.Frag} (h:H a=some (.lst xs)):SqL K H a xs:=.inl (.inl h)
theorem SqT.of {K:PySem.W.Frag} (h:H a=some (.tup xs)):SqT K H a xs:=.inl (.inl h)
theorem Inv.list (I:Inv X pins σ H s) (h:SqL X.K H a xs):∃ its:List Value,Vals xs its/\PlainL s.heap a its.toArray/\xs.length<=sizeLine:=by
 rcases h with h|⟨o,its,n,hk,hc,hd,hs,hz,r⟩
 ·obtain ⟨z,its,n,r,e⟩:=h.ok I.hok
  exact ⟨its,r,⟨_,n,e,rfl,rfl,rfl⟩,z⟩
 ·refine ⟨its.toList,r,⟨o,n,I.kIn a o hk,hc,hd,by simpa using hs⟩,?_⟩
  have e:=r.length
  simp only [Array.length_toList] at e
  lia
theorem Inv.tuple (I:Inv X pins σ H s) (h:SqT X.K H a xs):∃ its:List Value,Vals xs its/\IsTup s.heap a its.toArray/\xs.length<=sizeLine:=by
 rcases h with h|⟨o,its,n,hk,hc,hs,hz,r⟩
 ·obtain ⟨z,its,r,p⟩:=h.ok I.hok
  exact ⟨its,r,p,z⟩
 ·refine ⟨its.toList,r,⟨o,I.kIn a o hk,hc,n,by simpa using hs⟩,?_⟩
  have e:=r.length
  simp only [Array.length_toList] at e
  lia
theorem Inv.list_inj (I:Inv X pins σ H s) (h:SqL X.K H a xs) (h':SqL X.K H a ys):xs=ys:=by
 obtain ⟨its,r,⟨o,n,e,_,_,d⟩,_⟩:=I.list h
 obtain ⟨its',r',⟨o',n',e',_,_,d'⟩,_⟩:=I.list h'
 rw [e] at e';cases e'
 rw [d] at d'
 injection d' with d1 _
 have:its=its':=by simpa using congrArg Array.toList d1
 subst this
 exact r.inj r'
theorem Inv.tuple_inj (I:Inv X pins σ H s) (h:SqT X.K H a xs) (h':SqT X.K H a ys):xs=ys:=by
 obtain ⟨its,r,⟨o,e,_,n,d⟩,_⟩:=I.tuple h
 obtain ⟨its',r',⟨o',e',_,n',d'⟩,_⟩:=I.tuple h'
 rw [e] at e';cases e'
 rw [d] at d'
 injection d' with d1 _
 have:its=its':=by simpa using congrArg Array.toList d1
 subst this
 exact r.inj r'
end
noncomputable abbrev Cx.wish (X:Cx) (E:Value->Shared->Prop):Cx:={ X with xe:=E }
noncomputable abbrev Cx.nox (X:Cx):Cx:=X.wish fun _ _=>False
theorem Cx.Ok.wish {X:Cx} (ok:X.Ok) (E:Value->Shared->Prop):(X.wish E).Ok :=
 ⟨ok.mod,ok.kind,ok.glob,ok.blt,ok.above,ok.inj,ok.has,ok.cab,ok.hd,ok.frames,ok.stk,ok.exf,ok.bs,ok.bsz,ok.noex,ok.exfs,ok.funs,ok.frf⟩
theorem Cx.Ok.unwish {X:Cx} {E:Value->Shared->Prop} (ok:(X.wish E).Ok):X.Ok :=
 ⟨ok.mod,ok.kind,ok.glob,ok.blt,ok.above,ok.inj,ok.has,ok.cab,ok.hd,ok.frames,ok.stk,ok.exf,ok.bs,ok.bsz,ok.noex,ok.exfs,ok.funs,ok.frf⟩
section
variable {X:Cx} {pins:List (Addr×Obj)} {σ:St} {H:Hp} {s:Shared} {E:Value->Shared->Prop}
theorem Inv.wish (I:Inv X pins σ H s) (E:Value->Shared->Prop):Inv (X.wish E) pins σ H s:=⟨I.ok.wish E,I.os,I.bare,I.base,I.loc,I.cell,I.free,I.freeC,I.pin,I.hok,I.len⟩
theorem Inv.unwish (I:Inv (X.wish E) pins σ H s):Inv X pins σ H s:=⟨I.ok.unwish,I.os,I.bare,I.base,I.loc,I.cell,I.free,I.freeC,I.pin,I.hok,I.len⟩
theorem SP.unwish {D:Ends} {f:Flow} {s':Shared} (h:SP (X.wish E) pins D f s'):SP X pins D f s':=by
 cases f with
 | next=>obtain ⟨σ',H',I,q⟩:=h;exact ⟨σ',H',I.unwish,q⟩
 | brk=>obtain ⟨σ',H',I,q⟩:=h;exact ⟨σ',H',I.unwish,q⟩
 | cont=>obtain ⟨σ',H',I,q⟩:=h;exact ⟨σ',H',I.unwish,q⟩
 | ret u=>obtain ⟨v,σ',H',I,r,q⟩:=h;exact ⟨v,σ',H',I.unwish,r,q⟩
theorem PSs.nox {st:List Stmt} {t:TS} (h:PSs X.nox st t):PSs X st t:=fun pins s σ H D I hw =>
 wpAny_mono (h pins s σ H D (I.wish _) hw) (fun _ _ q=>q.unwish) fun _ _ z=>False.elim z
end
section
variable {X:Cx} {st:Stmt} {rest:List Stmt} {t u:TS} {e:Expr} {te:TE} {pos:Pos}
noncomputable def tNext:TS:=fun D σ H=>D.nx σ H
noncomputable def tSeq (t u:TS):TS:=fun D σ H=>t { D with nx:=u D } σ H
theorem Zaz:PSs X [] tNext:=fun _ _ σ H _ I h=>wpAny_execs_nil ⟨σ,H,I,h⟩
theorem Zae (h1 : PS X st t) (h2 : PSs X rest u) : PSs X (st :: rest) (tSeq t u) := by
  intro pins s σ H D I h
  refine wpAny_execs_cons (thn (h1 pins s σ H { D with nx := u D } I h) fun f s1 q => ?_)
  cases f with
  | next =>
    obtain ⟨σ', H', I', q⟩ := q
    exact h2 pins s1 σ' H' D I' q
  | ret v => exact q
  | brk => exact q
  | cont => exact q
theorem Zag (h1:PS X st t):PSs X [st] t:=by
 intro pins s σ H D I h
 refine wpAny_execs_cons (thn (h1 pins s σ H D I h) fun f s1 q=>?_)
 cases f with
 | next=>exact wpAny_execs_nil q
 | ret v=>exact q
 | brk=>exact q
 | cont=>exact q
theorem Inv.quiet {pins:List (Addr×Obj)} {σ:St} {H:Hp} {s:Shared} (I:Inv X pins σ H s):interactive X.env=false:=by simp [interactive,I.ok.kind]
noncomputable def tDrop (te:TE):TS:=fun D σ H=>te σ H fun _ H1=>D.nx σ H1
theorem Zby (he:PE X e te) (hs:swapsWith e none pos.line X.env=pure false:=by rfl):PS X (.Expr e pos) (tDrop te):=by
 intro pins s σ H D I h
 exact wpAny_Expr_any (thn (he pins s σ H _ I h) fun v s1 ⟨x,H1,I1,r1,q1⟩=>⟨σ,H1,I1,q1⟩) I.quiet hs
noncomputable def tRet (te:TE):TS:=fun D σ H=>te σ H D.rt
theorem ZaD (he:PE X e te):PS X (.Return (some e) pos) (tRet te):=by
 intro pins s σ H D I h
 exact wpAny_Return_some (thn (he pins s σ H _ I h) fun v s1 ⟨x,H1,I1,r1,q1⟩=>⟨x,σ,H1,I1,r1,q1⟩)
noncomputable def tIfS (c:TT) (t u:TS):TS:=fun D σ H=>c σ H fun b H1=>if b=true then t D σ H1 else u D σ H1
theorem Za1 {c:Expr} {a b:List Stmt} {tc:TT} (hc:PT X c tc) (ha:PSs X a t) (hb:PSs X b u):PS X (.If c a b pos) (tIfS tc t u):=by
 intro pins s σ H D I h
 refine wpAny_If (thn (hc pins s σ H _ I h) fun d s1 ⟨H1,I1,q1⟩=>?_)
 cases d with
 | true=>exact ha pins s1 σ H1 D I1 q1
 | false=>exact hb pins s1 σ H1 D I1 q1
end
noncomputable abbrev TG:=V->St->Hp->(St->Hp->Prop)->Prop
noncomputable abbrev TGs:=List V->St->Hp->(St->Hp->Prop)->Prop
noncomputable def PG (X:Cx) (target:Expr) (t:TG):Prop :=
 ∀ (pins:List (Addr×Obj)) (s:Shared) (σ:St) (H:Hp) (v:V) (u:Value) (Q:St->Hp->Prop),Inv X pins σ H s->RelV v u->t v σ H Q ->
  wpAny (model X.prog X.w) X.A (assign target X.env u) (fun _ s'=>∃ σ' H',Inv X pins σ' H' s'/\Q σ' H') X.xe s
noncomputable def PGs (X:Cx) (ts:List Expr) (t:TGs):Prop :=
 ∀ (pins:List (Addr×Obj)) (s:Shared) (σ:St) (H:Hp) (vs:List V) (us:List Value) (Q:St->Hp->Prop),Inv X pins σ H s->Vals vs us->t vs σ H Q ->
  wpAny (model X.prog X.w) X.A (assignInOrder ((assignEach ts X.env).map (·.2)) us) (fun _ s'=>∃ σ' H',Inv X pins σ' H' s'/\Q σ' H') X.xe s
noncomputable abbrev TSet:=V->V->V->Hp->(Hp->Prop)->Prop
noncomputable def PSet (X:Cx) (t:TSet):Prop :=
 ∀ (pins:List (Addr×Obj)) (s:Shared) (σ:St) (H:Hp) (o i v:V) (ov iv u:Value) (Q:Hp->Prop),Inv X pins σ H s->RelV o ov->RelV i iv->RelV v u->t o i v H Q ->
  wpAny (model X.prog X.w) X.A (setItem ov iv u) (fun _ s'=>∃ H',Inv X pins σ H' s'/\Q H') X.xe s
section
variable {X:Cx} {pos:Pos}
noncomputable def Zd2 (i:Nat):TG:=fun v σ H Q=>Q (σ.set i (some v)) H
theorem ZaE {i:Nat} {x:Str} (hN:X.N.Nodup) (hi:X.N[i]?=some x) (hx:Loc X.env.scope x) (hf:X.fn x=true\/X.env.scope.names.lookup x=some .local:=by first|exact .inl rfl|exact .inr rfl|assumption):PG X (.Name x pos) (Zd2 i):=by
 intro pins s σ H v u Q I r h
 exact wpAny_assign_Name (Zd7 I hN hi hx r (fun s' I'=>⟨_,H,I',h⟩) hf)
noncomputable def gNil:TGs:=fun vs σ H Q=>vs=[]/\Q σ H
noncomputable def gCons (t:TG) (u:TGs):TGs:=fun vs σ H Q=>∃ v r,vs=v::r/\t v σ H fun σ' H'=>u r σ' H' Q
theorem Zfp:PGs X [] gNil:=by
 intro pins s σ H vs us Q I r h
 obtain ⟨e,h⟩:=h
 subst e
 cases r
 exact assignInOrder_nil ⟨σ,H,I,h⟩
theorem ZbJ {e : Expr} {es : List Expr} {t : TG} {u : TGs} (h1 : PG X e t) (h2 : PGs X es u)
    (hs : (assignEach (e :: es) X.env).map (·.2) = assign e X.env :: (assignEach es X.env).map (·.2) := by rfl) : PGs X (e :: es) (gCons t u) := by
  intro pins s σ H vs us Q I r h
  obtain ⟨v, vr, e1, h⟩ := h
  subst e1
  cases r with
  | cons r rr =>
    rw [hs]
    refine assignInOrder_cons (thn (h1 pins s σ H _ _ _ I r h) fun _ s1 ⟨σ1, H1, I1, q1⟩ => ?_)
    exact h2 pins s1 σ1 H1 _ _ Q I1 rr q1
noncomputable def gTup (K:PySem.W.Frag) (n:Nat) (t:TGs):TG:=fun v σ H Q=>∃ a xs,v=.ref a/\SqT K H a xs/\xs.length=n/\t xs σ H Q
theorem pg_tup {es:List Expr} {k:Nat} {t:TGs} {n:Nat} (hc:X.calm=true) (h:PGs X es t)
  (hn:(assignEach es X.env).length=n:=by rfl) (hst:(assignEach es X.env).findIdx? (·.1)=none:=by rfl):PG X (.Tuple es k pos) (gTup X.K n t):=by
 intro pins s σ H v u Q I r hw
 obtain ⟨a,xs,e1,hq,hl,hw⟩:=hw
 subst e1
 cases r
 obtain ⟨its,rv,ht,hz⟩:=I.tuple hq
 refine assign_Tuple_tuple (I.ok.hd hc) ht (by simp [hn,<- hl,rv.length]) hst fun h' hx=>?_
 have I1:Inv X pins σ H { s with heap:=h' }:=I.kept (t':=s.toks) fun b o e=>hx b o (Nat.ne_of_lt (Heap.lt_size e)) e
 exact h pins _ σ H xs _ Q I1 (by simpa using rv) hw
noncomputable def gSub (to ti:TE) (t:TSet):TG:=fun v σ H Q=>to σ H fun o H1=>ti σ H1 fun i H2=>t o i v H2 fun H3=>Q σ H3
theorem Zc3 {o i:Expr} {to ti:TE} {t:TSet} (ho:PE X o to) (hi:PE X i ti) (hs:PSet X t)
  (ha:∀ v,assign (.Subscript o i pos) X.env v=(do
   let ov <- holding [v] (eval o X.env)
   let iv <- holding [v,ov] (eval i X.env)
   standAt pos
   holding [v,ov,iv] (setItem ov iv v)
   release [v,ov,iv] []):=by intro _;rfl):PG X (.Subscript o i pos) (gSub to ti t):=by
 intro pins s σ H v u Q I r h
 rw [ha]
 refine wpAny_bind (wpAny_holding (thn (ho pins s σ H _ I h) fun ov s1 ⟨x,H1,I1,r1,q1⟩=>?_))
 refine wpAny_bind (wpAny_holding (thn (hi pins s1 σ H1 _ I1 q1) fun iv s2 ⟨y,H2,I2,r2,q2⟩=>?_))
 refine wpAny_bind (wpAny_standAt (wpAny_bind (wpAny_holding (thn (hs pins s2 σ H2 x y v ov iv u _ I2 r1 r2 r q2) fun _ s3 ⟨H3,I3,q3⟩=>?_))))
 exact wpAny_release ⟨σ,H3,I3,q3⟩
noncomputable def tAsg (te:TE) (g:TG):TS:=fun D σ H=>te σ H fun x H1=>g x σ H1 D.nx
theorem ZcQ {tg e:Expr} {te:TE} {g:TG} (he:PE X e te) (hg:PG X tg g) (hs:swapsWithSole [tg] e pos.line X.env=pure false:=by rfl) (hw:swappedStores [tg] e X.env=pure none:=by rfl)
  (h1:(assignEach [tg] X.env).map (·.2)=[assign tg X.env]:=by rfl):PS X (.Assign [tg] e pos) (tAsg te g):=by
 intro pins s σ H D I h
 refine wpAny_Assign_stores (thn (he pins s σ H _ I h) fun v s1 ⟨x,H1,I1,r1,q1⟩=>?_) hs hw
 rw [h1]
 exact thn (hg pins s1 σ H1 x v _ I1 r1 q1) fun _ s2 q=>q
theorem Zc2 {i:Nat} {x:Str} {e:Expr} {te:TE} {pos':Pos} (hN:X.N.Nodup) (hi:X.N[i]?=some x) (hx:Loc X.env.scope x) (he:PE X e te) (hs:swapsWith e (some (.Name x pos')) pos.line X.env=pure false:=by rfl) (hf:X.fn x=true\/X.env.scope.names.lookup x=some .local:=by first|exact .inl rfl|exact .inr rfl|assumption) :
  PS X (.Assign [.Name x pos'] e pos) (tAsg te (Zd2 i)):=by
 intro pins s σ H D I h
 refine wpAny_Assign_Name (thn (he pins s σ H _ I h) fun v s1 ⟨y,H1,I1,r1,q1⟩=>?_) hs
 exact Zd7 I1 hN hi hx r1 (fun s2 I2=>⟨_,H1,I2,q1⟩) hf
end
section
variable {X:Cx} {pos:Pos}
noncomputable def tWhile (c:TT) (tb:TS):TS:=fun D σ H=>∃ W:Nat->St->Hp->Prop,(∃ m,W m σ H)/\∀ m σ H,W m σ H ->
 c σ H fun b H1=>if b=true then ∃ N:St->Hp->Prop,(∀ σ' H',N σ' H'->∃ m',m' < m/\W m' σ' H')/\tb { D with nx:=N,ct:=N,bk:=D.nx } σ H1 else D.nx σ H1
theorem ZlI {c : Expr} {body : List Stmt} {tc : TT} {tb : TS} (hp : PassesOwn (model X.prog X.w) X.A X.env X.xe) (hc : PT X c tc) (hb : PSs X body tb) : PS X (.While c body [] pos) (tWhile tc tb) := by
  intro pins s σ H D I h
  obtain ⟨W, ⟨m0, w0⟩, turn⟩ := h
  refine wpAny_While (codeAny_whileLoop (fun n s' => ∃ σ' H', Inv X pins σ' H' s' /\ W n σ' H') ?_ m0 ⟨σ, H, I, w0⟩)
  rintro n s1 ⟨σ1, H1, I1, w1⟩
  refine wpAny_passesOwn hp (thn (hc pins s1 σ1 H1 _ I1 (turn n σ1 H1 w1)) fun b s2 ⟨H2, I2, q2⟩ => ?_)
  cases b with
  | true =>
    obtain ⟨N, hN, q2⟩ := q2
    rw [if_pos rfl]
    refine wpAny_passesOwn hp (thn (hb pins s2 σ1 H2 _ I2 q2) fun f s3 q3 => ?_)
    cases f with
    | next =>
      obtain ⟨σ3, H3, I3, n3⟩ := q3
      obtain ⟨m', hm, w3⟩ := hN σ3 H3 n3
      exact ⟨m', hm, σ3, H3, I3, w3⟩
    | cont =>
      obtain ⟨σ3, H3, I3, n3⟩ := q3
      obtain ⟨m', hm, w3⟩ := hN σ3 H3 n3
      exact ⟨m', hm, σ3, H3, I3, w3⟩
    | brk => exact q3
    | ret v => exact q3
  | false =>
    rw [if_neg Bool.false_ne_true]
    exact wpAny_execs_nil ⟨σ1, H2, I2, q2⟩
end
structure It where
 go:Nat->Hp->Prop
 yld:Nat->Hp->V->Hp->Prop
 stop:Nat->Hp->Prop
noncomputable def FpOk (X:Cx) (pins:List (Addr×Obj)) (H:Hp) (b:Addr):Prop :=
 H b=none/\b≠X.env.locals/\b∉X.fs/\(b∈X.ex\/X.s₀.heap.objs.size<=b)/\(∀ x c,X.env.cells.lookup x=some c->c≠b)/\∀ p∈X.pn++pins,p.1≠b
theorem Inv.fpOk {X:Cx} {pins:List (Addr×Obj)} {σ:St} {H H':Hp} {s:Shared} {b:Addr} (I:Inv X pins σ H s) (hb:s.heap.objs.size<=b) (hn:H' b=none):FpOk X pins H' b:=by
 refine ⟨hn,Nat.ne_of_gt (Nat.lt_of_lt_of_le I.lt hb),I.nofs hb,.inr (Nat.le_trans I.sz hb),fun x c e z=>?_,fun p hp z=>?_⟩
 ·obtain ⟨v,q⟩:=I.cell x c e
  exact absurd (Nat.lt_of_lt_of_le q.lt (by rw [z];exact hb)) (Nat.lt_irrefl _)
 ·exact absurd (Nat.lt_of_lt_of_le (Heap.lt_size (I.pin p hp).1) (by rw [z];exact hb)) (Nat.lt_irrefl _)
structure Turn (P:Program) (w:World) (K:PySem.W.Frag) (tg:Expr) (J:It) (fp:List Addr) (it:Addr) (tn:Nat->Heap->Prop):Prop where
 mem:it∈fp
 obj:∀ i h,tn i h->∀ b∈fp,∃ o,h.get? b=some o/\∀ v,o.data≠.cell v
 keep:∀ i h h',tn i h->(∀ b∈fp,∀ o,h.get? b=some o->h'.get? b=some o)->tn i h'
 item:∀ (X:Cx),X.prog=P->X.w=w->X.K=K->X.calm=true->∀ (i:Nat) (pins:List (Addr×Obj)) (s:Shared) (σ:St) (H:Hp) (E:Value->Shared->Prop),Inv X pins σ H s->(∀ b∈fp,FpOk X pins H b)->tn i s.heap->J.go i H ->
  wpAny (model P w) X.A (pyNext (.ref it)) (fun r s1=>∃ u,r=some u /\
   wpAny (model P w) X.A (letOwnedTupleGo tg (.ref it) u) (fun _ s2=>∃ x H',Inv X pins σ H' s2/\RelV x u/\J.yld i H x H'/\tn (i+1) s2.heap/\∀ b∈fp,H' b=none) E s1) E s
 done:∀ (X:Cx),X.prog=P->X.w=w->X.K=K->X.calm=true->∀ (i:Nat) (pins:List (Addr×Obj)) (s:Shared) (σ:St) (H:Hp) (E:Value->Shared->Prop),Inv X pins σ H s->(∀ b∈fp,FpOk X pins H b)->tn i s.heap->J.stop i H ->
  wpAny (model P w) X.A (pyNext (.ref it)) (fun r s1=>r=none/\Inv X pins σ H s1) E s
 self:∀ (A:Around) (i:Nat) (s:Shared) (Q:Value->Shared->Prop) (E:Value->Shared->Prop),tn i s.heap->Q (.ref it) s->wpAny (model P w) A (pyIter (.ref it)) Q E s
noncomputable abbrev TI:=St->Hp->(It->Hp->Prop)->Prop
noncomputable def PIE (X:Cx) (pins:List (Addr×Obj)) (σ:St) (tg:Expr) (R:It->Hp->Prop) (itv:Value) (s2:Shared):Prop :=
 ∃ (it:Addr) (fp:List Addr) (tn:Nat->Heap->Prop) (J:It) (H':Hp),itv=.ref it/\Inv X pins σ H' s2/\Turn X.prog X.w X.K tg J fp it tn/\tn 0 s2.heap/\(∀ b∈fp,FpOk X pins H' b)/\R J H'
noncomputable def PI (X:Cx) (tg iter:Expr) (wi:TI):Prop :=
 ∀ (pins:List (Addr×Obj)) (s:Shared) (σ:St) (H:Hp) (R:It->Hp->Prop),Inv X pins σ H s->wi σ H R ->
  wpAny (model X.prog X.w) X.A (eval iter X.env) (fun v s1=>wpAny (model X.prog X.w) X.A (pyIter v) (PIE X pins σ tg R) X.xe s1) X.xe s
theorem Zl8 {M : Model} {A : Around} {E : Value -> Shared -> Prop} {s : Shared} {tg : Expr} {it : Addr} {u : Value} {o : Obj} {n : String} {vs : Array Value} {Q : Unit -> Shared -> Prop} (ho : s.heap.get? it = some o) (hc : o.cls = .type n) (hd : o.data = .fields vs)
    (hn : ["enumerate", "zip", "dict_itemiterator", "dict_reverseitemiterator", "odict_iterator", "itertools.zip_longest", "itertools.pairwise"].contains n = false) (hQ : Q () s) : wpAny M A (letOwnedTupleGo tg (.ref it) u) Q E s := by
  unfold letOwnedTupleGo
  cases tg <;> first
    | exact wpAny_pure hQ
    | (cases u <;> first
        | exact wpAny_pure hQ
        | (refine wpAny_bind (wpAny_load ho ?_)
           rw [hc, hd]
           show wpAny M A (if (["enumerate", "zip", "dict_itemiterator", "dict_reverseitemiterator", "odict_iterator", "itertools.zip_longest", "itertools.pairwise"].contains n && vs[0]? == some (rawInt _)) = true then _ else _) Q E s
           rw [if_neg (by intro h; rw [hn, Bool.false_and] at h; cases h)]
           exact wpAny_pure hQ))
noncomputable def Itl (K:PySem.W.Frag) (a:Addr):It :=
 ⟨fun i H=>∃ xs x,SqL K H a xs/\xs[i]?=some x,fun i H x H'=>H'=H/\∀ xs,SqL K H a xs->xs[i]?=some x,fun i H=>∃ xs,SqL K H a xs/\xs.length<=i⟩
noncomputable def Itt (K:PySem.W.Frag) (a:Addr):It :=
 ⟨fun i H=>∃ xs x,SqT K H a xs/\xs[i]?=some x,fun i H x H'=>H'=H/\∀ xs,SqT K H a xs->xs[i]?=some x,fun i H=>∃ xs,SqT K H a xs/\xs.length<=i⟩
noncomputable def Itr (lo:Int) (n:Nat):It:=⟨fun i _=>i < n,fun i H x H'=>H'=H/\x=.int (lo+i),fun i _=>n<=i⟩
theorem Zji {P:Program} {w:World} {K:PySem.W.Frag} {tg:Expr} (a it:Addr):Turn P w K tg (Itl K a) [it] it (fun i h=>h.IsListIter it a i) where
 mem:=by simp
 obj:=fun i h st b hb=>by
  have e:b=it:=by simpa using hb
  subst e
  obtain ⟨o,e,c,d⟩:=st
  exact ⟨o,e,fun v z=>by rw [d] at z;cases z⟩
 keep:=fun i h h' st k=>st.at fun o e=>k it (by simp) o e
 item:=by
  intro X hP hw hK hc i pins s σ H E I hf st hg
  subst hP hw hK
  obtain ⟨xs,x,hq,hx⟩:=hg
  obtain ⟨its,rv,p,hz⟩:=I.list hq
  obtain ⟨u,hu,ru⟩:=rv.get hx
  obtain ⟨f0,f1,f2,f3,f4,f5⟩:=hf it (by simp)
  refine wpAny_pyNext_list_item st p.isList (x:=u) (by simpa using hu) fun h' st' sb=>?_
  have I1:Inv X pins σ H { s with heap:=h' }:=I.turned (t':=s.toks) (fun b o hb e=>(sb.2 b hb).trans e) f0 f1 f3 f4 f5
  obtain ⟨o,e,c,d⟩:=id st'
  exact ⟨u,rfl,Zl8 (s:={ s with heap:=h' }) e c d (by decide) ⟨x,H,I1,ru,⟨rfl,fun ys hy=>by rw [I.list_inj hy hq];exact hx⟩,st',fun b hb=>(hf b hb).1⟩⟩
 done:=by
  intro X hP hw hK hc i pins s σ H E I hf st hg
  subst hP hw hK
  obtain ⟨xs,hq,hx⟩:=hg
  obtain ⟨its,rv,p,hz⟩:=I.list hq
  obtain ⟨f0,f1,f2,f3,f4,f5⟩:=hf it (by simp)
  have hl:=rv.length
  exact wpAny_pyNext_list_end (I.ok.hd hc) st p.isList (by simp;lia) fun h' eb=>⟨rfl,I.turned (t':=s.toks) (fun b o hb e=>eb b o hb e) f0 f1 f3 f4 f5⟩
 self:=fun _ _ _ _ _ st h=>wpAny_pyIter_listiter st h
theorem ZiM {P:Program} {w:World} {K:PySem.W.Frag} {tg:Expr} (a it:Addr):Turn P w K tg (Itt K a) [it] it (fun i h=>h.IsTupleIter it a i) where
 mem:=by simp
 obj:=fun i h st b hb=>by
  have e:b=it:=by simpa using hb
  subst e
  obtain ⟨o,e,c,d⟩:=st
  exact ⟨o,e,fun v z=>by rw [d] at z;cases z⟩
 keep:=fun i h h' st k=>st.at fun o e=>k it (by simp) o e
 item:=by
  intro X hP hw hK hc i pins s σ H E I hf st hg
  subst hP hw hK
  obtain ⟨xs,x,hq,hx⟩:=hg
  obtain ⟨its,rv,p,hz⟩:=I.tuple hq
  obtain ⟨u,hu,ru⟩:=rv.get hx
  obtain ⟨f0,f1,f2,f3,f4,f5⟩:=hf it (by simp)
  refine wpAny_pyNext_tuple_item st (show s.heap.IsTuple a its.toArray from p) (x:=u) (by simpa using hu) fun h' st' sb=>?_
  have I1:Inv X pins σ H { s with heap:=h' }:=I.turned (t':=s.toks) (fun b o hb e=>(sb.2 b hb).trans e) f0 f1 f3 f4 f5
  obtain ⟨o,e,c,d⟩:=id st'
  exact ⟨u,rfl,Zl8 (s:={ s with heap:=h' }) e c d (by decide) ⟨x,H,I1,ru,⟨rfl,fun ys hy=>by rw [I.tuple_inj hy hq];exact hx⟩,st',fun b hb=>(hf b hb).1⟩⟩
 done:=by
  intro X hP hw hK hc i pins s σ H E I hf st hg
  subst hP hw hK
  obtain ⟨xs,hq,hx⟩:=hg
  obtain ⟨its,rv,p,hz⟩:=I.tuple hq
  obtain ⟨f0,f1,f2,f3,f4,f5⟩:=hf it (by simp)
  have hl:=rv.length
  exact wpAny_pyNext_tuple_end (I.ok.hd hc) st (show s.heap.IsTuple a its.toArray from p) (by simp;lia) fun h' eb=>⟨rfl,I.turned (t':=s.toks) (fun b o hb e=>eb b o hb e) f0 f1 f3 f4 f5⟩
 self:=fun _ _ _ _ _ st h=>wpAny_pyIter_tupleiter st h
theorem ZiN {P:Program} {w:World} {K:PySem.W.Frag} {tg:Expr} (it:Addr) (lo:Int) (n:Nat):Turn P w K tg (Itr lo n) [it] it (fun i h=>IsRangeIter h it (lo+(i:Nat) * 1) ((n:Int) - (i:Nat)) 1) where
 mem:=by simp
 obj:=fun i h st b hb=>by
  have e:b=it:=by simpa using hb
  subst e
  exact ⟨_,st,fun v z=>by
   have z':Data.fields _=Data.cell v:=z
   cases z'⟩
 keep:=fun i h h' st k=>k it (by simp) _ st
 item:=by
  intro X hP hw hK hc i pins s σ H E I hf st hg
  subst hP hw hK
  obtain ⟨f0,f1,f2,f3,f4,f5⟩:=hf it (by simp)
  have W:=Walks.range (prog:=X.prog) (w:=X.w) (I.ok.hd hc) it lo 1 n
  refine W.item i s _ _ hg st fun v h' tk hv st' kk=>?_
  obtain ⟨t,rfl⟩:=hv
  have I1:Inv X pins σ H { s with heap:=h',toks:=tk }:=I.turned (fun b o hb e=>kk b o (by simpa using hb) e) f0 f1 f3 f4 f5
  refine ⟨_,rfl,Zl8 (s:={ s with heap:=h',toks:=tk }) (n:="range_iterator") st' rfl rfl (by decide) ⟨.int (lo+i),H,I1,⟨t,?_⟩,⟨rfl,rfl⟩,st',fun b hb=>(hf b hb).1⟩⟩
  rw [Int.mul_one]
 done:=by
  intro X hP hw hK hc i pins s σ H E I hf st hg
  subst hP hw hK
  obtain ⟨f0,f1,f2,f3,f4,f5⟩:=hf it (by simp)
  exact wpAny_pyNext_range_end (I.ok.hd hc) st (by have:n<=i:=hg;lia) fun h' eb=>⟨rfl,I.turned (t':=s.toks) (fun b o hb e=>eb b o hb e) f0 f1 f3 f4 f5⟩
 self:=fun _ _ _ _ _ st h=>wpAny_pyIter_rangeiter st h
end L2
namespace L2
open PySem PySem.Spec PyProof.Rows
section
variable {X:Cx} {tg:Expr}
noncomputable def Zn6 (K:PySem.W.Frag) (tl:TE):TI:=fun σ H R=>tl σ H fun x H1=>∃ a,x=.ref a/\(∃ xs,SqL K H1 a xs)/\R (Itl K a) H1
noncomputable def iTup (K:PySem.W.Frag) (tl:TE):TI:=fun σ H R=>tl σ H fun x H1=>∃ a,x=.ref a/\(∃ xs,SqT K H1 a xs)/\R (Itt K a) H1
theorem ZnK {l:Expr} {tl:TE} (hl:PE X l tl):PI X tg l (Zn6 X.K tl):=by
 intro pins s σ H R I h
 refine thn (hl pins s σ H _ I h) fun v s1 ⟨x,H1,I1,r1,q1⟩=>?_
 obtain ⟨a,e,⟨xs,hq⟩,q⟩:=q1
 subst e
 cases r1
 obtain ⟨its,rv,p,hz⟩:=I1.list hq
 refine wpAny_pyIter_list p.isList ?_
 refine ⟨s1.heap.objs.size,[s1.heap.objs.size],_,_,H1,rfl,I1.kept (t':=s1.toks) fun b o e=>Heap.get?_push_of_some _ e,Zji a _,⟨_,Heap.get?_push_size _ rfl,rfl,rfl⟩,fun b hb=>?_,q⟩
 have e:b=s1.heap.objs.size:=by simpa using hb
 subst e
 exact I1.fpOk (Nat.le_refl _) (I1.hok.fresh (Nat.le_refl _))
theorem pi_tup {l:Expr} {tl:TE} (hl:PE X l tl):PI X tg l (iTup X.K tl):=by
 intro pins s σ H R I h
 refine thn (hl pins s σ H _ I h) fun v s1 ⟨x,H1,I1,r1,q1⟩=>?_
 obtain ⟨a,e,⟨xs,hq⟩,q⟩:=q1
 subst e
 cases r1
 obtain ⟨its,rv,p,hz⟩:=I1.tuple hq
 refine wpAny_pyIter_tuple (show s1.heap.IsTuple a its.toArray from p) ?_
 refine ⟨s1.heap.objs.size,[s1.heap.objs.size],_,_,H1,rfl,I1.kept (t':=s1.toks) fun b o e=>Heap.get?_push_of_some _ e,ZiM a _,⟨_,Heap.get?_push_size _ rfl,rfl,rfl⟩,fun b hb=>?_,q⟩
 have e:b=s1.heap.objs.size:=by simpa using hb
 subst e
 exact I1.fpOk (Nat.le_refl _) (I1.hok.fresh (Nat.le_refl _))
theorem ZlE {pins:List (Addr×Obj)} {σ:St} {H:Hp} {s:Shared} {R:It->Hp->Prop} {E:Value->Shared->Prop} {lo hi:Int} {t u v:Tok} {tk:Nat} (I:Inv X pins σ H s) (h1:-(2 ^ 62)<=lo) (h2:lo < 2 ^ 62) (h3:-(2 ^ 62)<=hi) (h4:hi < 2 ^ 62)
  (q:R (Itr lo (hi - lo).toNat) H):wpAny (model X.prog X.w) X.A (pyIter (.ref s.heap.objs.size)) (PIE X pins σ tg R) E { s with heap:=s.heap.push { cls:=.type "range",data:=.fields #[.int lo t,.int hi u,.int 1 v] },toks:=tk }:=by
 refine wpAny_pyIter_range (IsRange.new ..) (small_one h1 h2 h3 h4) ?_
 have I1:Inv X pins σ H { s with heap:=s.heap.push { cls:=.type "range",data:=.fields #[.int lo t,.int hi u,.int 1 v] },toks:=tk }:=I.kept fun b o e=>Heap.get?_push_of_some _ e
 refine ⟨(s.heap.push { cls:=.type "range",data:=.fields #[.int lo t,.int hi u,.int 1 v] }).objs.size,[(s.heap.push { cls:=.type "range",data:=.fields #[.int lo t,.int hi u,.int 1 v] }).objs.size],_,_,H,rfl,
  I1.kept (t':=tk) fun b o e=>Heap.get?_push_of_some _ e,ZiN _ lo (hi - lo).toNat,?_,fun b hb=>?_,q⟩
 ·have e1:lo+((0:Nat):Int) * 1=lo:=by simp
  have e2:(((hi - lo).toNat:Nat):Int) - ((0:Nat):Int)=Builtin.Range.rangeSize lo hi 1:=by rw [rangeSize_one];split <;> lia
  show IsRangeIter _ _ (lo+((0:Nat):Int) * 1) ((((hi - lo).toNat:Nat):Int) - ((0:Nat):Int)) 1
  rw [e1,e2]
  exact Heap.get?_push_size _ rfl
 ·have e:b=(s.heap.push { cls:=.type "range",data:=.fields #[.int lo t,.int hi u,.int 1 v] }).objs.size:=by simpa using hb
  subst e
  exact I1.fpOk (Nat.le_refl _) (I1.hok.fresh (Nat.le_refl _))
noncomputable def iRng1 (ta:TA):TI:=fun σ H R=>ta σ H fun vs H1=>∃ j:Int,vs=[.int j]/\-(2 ^ 62)<=j/\j < 2 ^ 62/\R (Itr 0 j.toNat) H1
theorem ZbL {a : Expr} {ta : TA} {p pos : Pos} (hg : Gl X "range") (hm : X.mg "range" = none) (ha : PA X [a] ta) (hs : starEach [a] X.env = [(false, eval a X.env)] := by rfl) : PI X tg (.Call (.Name "range" p) [a] [] pos) (iRng1 ta) := by
  intro pins s σ H R I h
  refine Call_ (Zix I hg hm boot_range (PyProof.Rows.callWith_type1 (thn (ha pos pins s σ H _ I h) fun us s1 ⟨vs, H1, I1, r1, q1⟩ => ?_) hs rfl))
  obtain ⟨j, e, q1, q2, q⟩ := q1
  subst e
  cases r1 with
  | cons r rr =>
    cases rr
    obtain ⟨t, rfl⟩ := r
    exact call_range_1 (ZlE I1 (by lia) (by lia) q1 q2 (by simpa using q))
noncomputable def tFor (wi:TI) (g:TG) (tb:TS):TS:=fun D σ H=>wi σ H fun J H1=>∃ W:Nat->Nat->St->Hp->Prop,(∃ m,W 0 m σ H1)/\∀ i m σ H,W i m σ H ->
 (J.stop i H/\D.nx σ H)\/(J.go i H/\∃ N:St->Hp->Prop,(∀ σ' H',N σ' H'->∃ m',m' < m/\W (i+1) m' σ' H')/\∀ x H',J.yld i H x H'->g x σ H' fun σ2 H2=>tb { D with nx:=N,ct:=N,bk:=D.nx } σ2 H2)
noncomputable def Zcz (fp:List Addr) (h:Heap):List (Addr×Obj):=fp.filterMap fun b=>(h.get? b).map fun o=>(b,o)
theorem Zc4 {fp:List Addr} {h:Heap} {b:Addr} {o:Obj} (hb:b∈fp) (e:h.get? b=some o):(b,o)∈Zcz fp h:=mem_filterMap.mpr ⟨b,hb,by rw [e];rfl⟩
theorem Zg6 {fp : List Addr} {h : Heap} {p : Addr × Obj} (hp : p ∈ Zcz fp h) : p.1 ∈ fp /\ h.get? p.1 = some p.2 := by
  obtain ⟨b, hb, e⟩ := mem_filterMap.mp hp
  cases q : h.get? b with
  | none => rw [q] at e; cases e
  | some o =>
    rw [q] at e
    have e' : (b, o) = p := Option.some.inj e
    subst e'
    exact ⟨hb, q⟩
theorem Inv.pinned {pins:List (Addr×Obj)} {σ:St} {H:Hp} {s:Shared} {fp:List Addr} (I:Inv X pins σ H s) (hf:∀ b∈fp,FpOk X pins H b) (ho:∀ b∈fp,∃ o,s.heap.get? b=some o/\∀ v,o.data≠.cell v):Inv X (pins++Zcz fp s.heap) σ H s :=
 I.pins_of fun p hp=>(mem_append.mp hp).elim (fun z=>I.pin p (mem_append_right _ z)) fun z=>by
  obtain ⟨hb,e⟩:=Zg6 z
  obtain ⟨f0,f1,f2,_⟩:=hf p.1 hb
  obtain ⟨o,e',d⟩:=ho p.1 hb
  rw [e] at e';cases e'
  exact ⟨e,f0,f1,f2,d⟩
theorem Inv.unpinned {pins pl:List (Addr×Obj)} {σ:St} {H:Hp} {s:Shared} (I:Inv X (pins++pl) σ H s):Inv X pins σ H s:=I.pins_of fun p hp=>I.pin p (mem_append_right _ (mem_append_left _ hp))
theorem Zch {iter:Expr} {body:List Stmt} {wi:TI} {g:TG} {tb:TS} {pos:Pos} (hp:PassesOwn (model X.prog X.w) X.A X.env X.xe) (hc:X.calm=true) (hi:PI X tg iter wi) (hg:PG X tg g) (hb:PSs X body tb)
  (hs:∀ x,foldedSetIterable iter X.env x=pure x:=by intro _;rfl):PS X (.For tg iter body [] pos) (tFor wi g tb):=by
 intro pins s σ H D I h
 refine wpAny_For (thn (hi pins s σ H _ I h) fun v s1 h1=>thn h1 fun itv s2 h2=>?_) hs
 obtain ⟨it,fp,tn,J,H2,e,I2,T,st2,f2,W,⟨m0,w0⟩,turn⟩:=h2
 subst e
 have stat:∀ {H':Hp},(∀ b∈fp,H' b=none)->∀ b∈fp,FpOk X pins H' b:=fun hn b hb=>⟨hn b hb,(f2 b hb).2⟩
 refine codeAny_forLoop_any (fun n s'=>∃ i σ' H',Inv X pins σ' H' s'/\tn i s'.heap/\(∀ b∈fp,H' b=none)/\W i n σ' H') ?_ m0 ⟨0,σ,H2,I2,st2,fun b hb=>(f2 b hb).1,w0⟩
 rintro n s3 ⟨i,σ3,H3,I3,st3,fr3,w3⟩
 rcases turn i n σ3 H3 w3 with ⟨stop,qn⟩|⟨go,N,hN,step⟩
 ·refine wpAny_passesOwn hp (thn (T.done X rfl rfl rfl hc i pins s3 σ3 H3 X.xe I3 (stat fr3) st3 stop) fun r s4 ⟨hr,I4⟩=>?_)
  subst hr
  exact wpAny_execs_nil ⟨σ3,H3,I4,qn⟩
 ·refine wpAny_passesOwn hp (thn (T.item X rfl rfl rfl hc i pins s3 σ3 H3 X.xe I3 (stat fr3) st3 go) fun r s4 ⟨u,hr,h4⟩=>?_)
  subst hr
  refine wpAny_passesOwn hp (thn h4 fun _ s5 ⟨x,H5,I5,r5,y5,st5,fr5⟩=>?_)
  have I5':=I5.pinned (stat fr5) (T.obj _ _ st5)
  refine wpAny_passesOwn hp (thn (hg _ s5 σ3 H5 x u _ I5' r5 (step x H5 y5)) fun _ s6 ⟨σ6,H6,I6,q6⟩=>?_)
  refine wpAny_passesOwn hp (thn (hb _ s6 σ6 H6 _ I6 q6) fun f s7 q7=>?_)
  have again:∀ {σ7:St} {H7:Hp},Inv X (pins++Zcz fp s5.heap) σ7 H7 s7->N σ7 H7->∃ m,m < n/\∃ i σ' H',Inv X pins σ' H' s7/\tn i s7.heap/\(∀ b∈fp,H' b=none)/\W i m σ' H':=fun {σ7 H7} I7 n7=>by
   obtain ⟨m',hm,w7⟩:=hN σ7 H7 n7
   refine ⟨m',hm,i+1,σ7,H7,I7.unpinned,T.keep _ _ _ st5 fun b hb o e=>(I7.pin (b,o) (mem_append_right _ (mem_append_right _ (Zc4 hb e)))).1,fun b hb=>?_,w7⟩
   obtain ⟨o,e,d⟩:=T.obj _ _ st5 b hb
   exact (I7.pin (b,o) (mem_append_right _ (mem_append_right _ (Zc4 hb e)))).2.1
  cases f with
  | next=>obtain ⟨σ7,H7,I7,n7⟩:=q7;exact again I7 n7
  | cont=>obtain ⟨σ7,H7,I7,n7⟩:=q7;exact again I7 n7
  | brk=>obtain ⟨σ7,H7,I7,q7⟩:=q7;exact ⟨σ7,H7,I7.unpinned,q7⟩
  | ret v=>obtain ⟨x7,σ7,H7,I7,r7,q7⟩:=q7;exact ⟨x7,σ7,H7,I7.unpinned,r7,q7⟩
end
theorem ZgC {K:PySem.W.Frag} {a:Addr} {xs:List V} {g:TG} {tb:TS} {D:Ends} {σ:St} {H:Hp} (Pv:Nat->St->Hp->Prop) (h0:Pv 0 σ H) (hl:∀ i σ H,i<=xs.length->Pv i σ H->SqL K H a xs)
  (hs:∀ i x σ H,xs[i]?=some x->Pv i σ H->g x σ H fun σ2 H2=>tb { D with nx:=Pv (i+1),ct:=Pv (i+1),bk:=D.nx } σ2 H2) (hd:∀ σ H,Pv xs.length σ H->D.nx σ H) :
  ∃ W:Nat->Nat->St->Hp->Prop,(∃ m,W 0 m σ H)/\∀ i m σ H,W i m σ H ->
   ((Itl K a).stop i H/\D.nx σ H)\/((Itl K a).go i H/\∃ N:St->Hp->Prop,(∀ σ' H',N σ' H'->∃ m',m' < m/\W (i+1) m' σ' H')/\∀ x H',(Itl K a).yld i H x H'->g x σ H' fun σ2 H2=>tb { D with nx:=N,ct:=N,bk:=D.nx } σ2 H2):=by
 refine ⟨fun i m σ H=>m=xs.length - i/\i<=xs.length/\Pv i σ H,⟨xs.length,by simp,Nat.zero_le _,h0⟩,?_⟩
 rintro i m σ H ⟨rfl,hi,p⟩
 have q:=hl i σ H hi p
 by_cases hlt:i < xs.length
 ·refine .inr ⟨⟨xs,xs[i],q,by simp [hlt]⟩,Pv (i+1),fun σ' H' p'=>⟨xs.length - (i+1),by lia,rfl,hlt,p'⟩,fun x H' y=>?_⟩
  obtain ⟨e,y⟩:=y
  subst e
  exact hs i x σ _ (y xs q) p
 ·have e:i=xs.length:=by lia
  subst e
  exact .inl ⟨⟨xs,q,Nat.le_refl _⟩,hd σ H p⟩
theorem Zn9 {K:PySem.W.Frag} {a:Addr} {xs:List V} {g:TG} {tb:TS} {D:Ends} {σ:St} {H:Hp} (Pv:Nat->St->Hp->Prop) (h0:Pv 0 σ H) (hl:∀ i σ H,i<=xs.length->Pv i σ H->SqT K H a xs)
  (hs:∀ i x σ H,xs[i]?=some x->Pv i σ H->g x σ H fun σ2 H2=>tb { D with nx:=Pv (i+1),ct:=Pv (i+1),bk:=D.nx } σ2 H2) (hd:∀ σ H,Pv xs.length σ H->D.nx σ H) :
  ∃ W:Nat->Nat->St->Hp->Prop,(∃ m,W 0 m σ H)/\∀ i m σ H,W i m σ H ->
   ((Itt K a).stop i H/\D.nx σ H)\/((Itt K a).go i H/\∃ N:St->Hp->Prop,(∀ σ' H',N σ' H'->∃ m',m' < m/\W (i+1) m' σ' H')/\∀ x H',(Itt K a).yld i H x H'->g x σ H' fun σ2 H2=>tb { D with nx:=N,ct:=N,bk:=D.nx } σ2 H2):=by
 refine ⟨fun i m σ H=>m=xs.length - i/\i<=xs.length/\Pv i σ H,⟨xs.length,by simp,Nat.zero_le _,h0⟩,?_⟩
 rintro i m σ H ⟨rfl,hi,p⟩
 have q:=hl i σ H hi p
 by_cases hlt:i < xs.length
 ·refine .inr ⟨⟨xs,xs[i],q,by simp [hlt]⟩,Pv (i+1),fun σ' H' p'=>⟨xs.length - (i+1),by lia,rfl,hlt,p'⟩,fun x H' y=>?_⟩
  obtain ⟨e,y⟩:=y
  subst e
  exact hs i x σ _ (y xs q) p
 ·have e:i=xs.length:=by lia
  subst e
  exact .inl ⟨⟨xs,q,Nat.le_refl _⟩,hd σ H p⟩
theorem ZdK {lo:Int} {n:Nat} {g:TG} {tb:TS} {D:Ends} {σ:St} {H:Hp} (Pv:Nat->St->Hp->Prop) (h0:Pv 0 σ H)
  (hs:∀ i σ H,i < n->Pv i σ H->g (.int (lo+i)) σ H fun σ2 H2=>tb { D with nx:=Pv (i+1),ct:=Pv (i+1),bk:=D.nx } σ2 H2) (hd:∀ σ H,Pv n σ H->D.nx σ H) :
  ∃ W:Nat->Nat->St->Hp->Prop,(∃ m,W 0 m σ H)/\∀ i m σ H,W i m σ H ->
   ((Itr lo n).stop i H/\D.nx σ H)\/((Itr lo n).go i H/\∃ N:St->Hp->Prop,(∀ σ' H',N σ' H'->∃ m',m' < m/\W (i+1) m' σ' H')/\∀ x H',(Itr lo n).yld i H x H'->g x σ H' fun σ2 H2=>tb { D with nx:=N,ct:=N,bk:=D.nx } σ2 H2):=by
 refine ⟨fun i m σ H=>m=n - i/\i<=n/\Pv i σ H,⟨n,by simp,Nat.zero_le _,h0⟩,?_⟩
 rintro i m σ H ⟨rfl,hi,p⟩
 by_cases hlt:i < n
 ·refine .inr ⟨hlt,Pv (i+1),fun σ' H' p'=>⟨n - (i+1),by lia,rfl,hlt,p'⟩,fun x H' y=>?_⟩
  obtain ⟨e,y⟩:=y
  subst e y
  exact hs i σ _ hlt p
 ·have e:i=n:=by lia
  subst e
  exact .inl ⟨Nat.le_refl _,hd σ H p⟩
end L2
namespace L2
open PySem PySem.Spec PyProof.Rows
noncomputable abbrev R2:=V->V->Hp->VK->Prop
noncomputable def OpR (X:Cx) (f:Value->Value->Sem Value) (r:R2):Prop :=
 ∀ (pins:List (Addr×Obj)) (s:Shared) (σ:St) (H:Hp) (x y:V) (v u:Value) (Q:VK),Inv X pins σ H s->RelV x v->RelV y u->r x y H Q ->
  wpAny (model X.prog X.w) X.A (f v u) (EP X pins σ Q) X.xe s
noncomputable def UnR (X:Cx) (f:Value->Sem Value) (r:V->Hp->VK->Prop):Prop :=
 ∀ (pins:List (Addr×Obj)) (s:Shared) (σ:St) (H:Hp) (x:V) (v:Value) (Q:VK),Inv X pins σ H s->RelV x v->r x H Q ->
  wpAny (model X.prog X.w) X.A (f v) (EP X pins σ Q) X.xe s
noncomputable def Zc9 (X:Cx) (f:Value) (r:List V->Hp->VK->Prop):Prop :=
 ∀ (pins:List (Addr×Obj)) (s:Shared) (σ:St) (H:Hp) (xs:List V) (us:List Value) (Q:VK),Inv X pins σ H s->Vals xs us->r xs H Q ->
  wpAny (model X.prog X.w) X.A (call f us) (EP X pins σ Q) X.xe s
noncomputable def tOp (r:R2) (ta tb:TE):TE:=fun σ H Q=>ta σ H fun x H1=>tb σ H1 fun y H2=>r x y H2 Q
noncomputable def tUn (r:V->Hp->VK->Prop) (ta:TE):TE:=fun σ H Q=>ta σ H fun x H1=>r x H1 Q
noncomputable def rI (C:Int->Int->Prop) (g:Int->Int->V):R2:=fun x y H Q=>∃ i j,x=.int i/\y=.int j/\C i j/\Q (g i j) H
noncomputable def rI0 (g:Int->Int->V):R2:=fun x y H Q=>∃ i j,x=.int i/\y=.int j/\Q (g i j) H
noncomputable def rU (g:Int->V):V->Hp->VK->Prop:=fun x H Q=>∃ i,x=.int i/\Q (g i) H
section
variable {X:Cx} {a b c:Expr} {ta tb tc:TE} {pos:Pos}
theorem binT (ha:PE X a ta) (hb:PE X b tb) {pins:List (Addr×Obj)} {s:Shared} {σ:St} {H:Hp} {R:V->V->Hp->Prop} (I:Inv X pins σ H s)
  (h:ta σ H fun x H1=>tb σ H1 fun y H2=>R x y H2) {Q:Value->Shared->Prop} {f:Value->Value->Sem Value}
  (hf:∀ v u s2 x y H2,Inv X pins σ H2 s2->RelV x v->RelV y u->R x y H2->wpAny (model X.prog X.w) X.A (f v u) Q X.xe s2) :
  wpAny (model X.prog X.w) X.A (eval a X.env) (fun v s₁=>wpAny (model X.prog X.w) X.A (eval b X.env) (fun u s₂=>wpAny (model X.prog X.w) X.A (f v u) Q X.xe s₂) X.xe s₁) X.xe s:=by
 refine thn (ha pins s σ H _ I h) fun v s1 ⟨x,H1,I1,r1,q1⟩=>?_
 refine thn (hb pins s1 σ H1 _ I1 q1) fun u s2 ⟨y,H2,I2,r2,q2⟩=>?_
 exact hf v u s2 x y H2 I2 r1 r2 q2
theorem Zar {op:Operator} {r:R2} (ho:OpR X (binaryOp op) r) (ha:PE X a ta) (hb:PE X b tb):PE X (.BinOp a op b pos) (tOp r ta tb):=by
 intro pins s σ H Q I h
 exact wpAny_BinOp (binT ha hb I h fun v u s2 x y H2 I2 rx ry q=>ho pins s2 σ H2 x y v u Q I2 rx ry q)
theorem ZdF {op:UnaryOp} {r:V->Hp->VK->Prop} (ho:UnR X (unaryOp op) r) (ha:PE X a ta):PE X (.UnaryOp op a pos) (tUn r ta):=by
 intro pins s σ H Q I h
 exact UnaryOp_ (thn (ha pins s σ H _ I h) fun v s1 ⟨x,H1,I1,r1,q1⟩=>ho pins s1 σ H1 x v Q I1 r1 q1)
theorem opI {f:Value->Value->Sem Value} {C:Int->Int->Prop} {g:Int->Int->Int}
  (rule:∀ (i j:Int) (t u:Tok) (s:Shared) (Q:Value->Shared->Prop) (E:Value->Shared->Prop),C i j->Q (.int (g i j) s.toks) { s with toks:=s.toks+1 }->wpAny (model X.prog X.w) X.A (f (.int i t) (.int j u)) Q E s) :
  OpR X f (rI C fun i j=>.int (g i j)):=by
 intro pins s σ H x y v u Q I rx ry h
 obtain ⟨i,j,rfl,rfl,hc,q⟩:=h
 obtain ⟨t,rfl⟩:=rx
 obtain ⟨t',rfl⟩:=ry
 exact rule i j t t' s _ _ hc ⟨.int (g i j),H,I.tok _,⟨_,rfl⟩,q⟩
theorem opI0 {f:Value->Value->Sem Value} {g:Int->Int->Int}
  (rule:∀ (i j:Int) (t u:Tok) (s:Shared) (Q:Value->Shared->Prop) (E:Value->Shared->Prop),Q (.int (g i j) s.toks) { s with toks:=s.toks+1 }->wpAny (model X.prog X.w) X.A (f (.int i t) (.int j u)) Q E s) :
  OpR X f (rI0 fun i j=>.int (g i j)):=by
 intro pins s σ H x y v u Q I rx ry h
 obtain ⟨i,j,rfl,rfl,q⟩:=h
 obtain ⟨t,rfl⟩:=rx
 obtain ⟨t',rfl⟩:=ry
 exact rule i j t t' s _ _ ⟨.int (g i j),H,I.tok _,⟨_,rfl⟩,q⟩
theorem opB0 {f:Value->Value->Sem Value} {g:Int->Int->Bool}
  (rule:∀ (i j:Int) (t u:Tok) (s:Shared) (Q:Value->Shared->Prop) (E:Value->Shared->Prop),Q (.bool (g i j)) s->wpAny (model X.prog X.w) X.A (f (.int i t) (.int j u)) Q E s) :
  OpR X f (rI0 fun i j=>.bl (g i j)):=by
 intro pins s σ H x y v u Q I rx ry h
 obtain ⟨i,j,rfl,rfl,q⟩:=h
 obtain ⟨t,rfl⟩:=rx
 obtain ⟨t',rfl⟩:=ry
 exact rule i j t t' s _ _ ⟨.bl (g i j),H,I,rfl,q⟩
noncomputable def CPow (i j:Int):Prop:=0<=j/\j<=1000000/\i.natAbs < 2 ^ 64
noncomputable def CMul (i j:Int):Prop:=(-(2 ^ 64) < i/\i < 2 ^ 64)\/(-(2 ^ 64) < j/\j < 2 ^ 64)
theorem CMul.ok {i j:Int} (h:CMul i j):IntMulOk i j:=by
 rcases h with ⟨h1,h2⟩|⟨h1,h2⟩
 ·exact .of_left (intBits_le_64 h1 h2)
 ·exact .of_right (intBits_le_64 h1 h2)
theorem ZbE:OpR X (binaryOp .Add) (rI0 fun i j=>.int (i+j)):=opI0 fun _ _ _ _ _ _ _ q=>add_int q
theorem Zj7:OpR X (binaryOp .Sub) (rI0 fun i j=>.int (i - j)):=opI0 fun _ _ _ _ _ _ _ q=>sub_int q
theorem Zka:OpR X (binaryOp .Mult) (rI CMul fun i j=>.int (i * j)):=opI fun _ _ _ _ _ _ _ hc q=>mul_int q hc.ok
theorem Zci:OpR X (binaryOp .Mod) (rI (fun _ j=>0 < j) fun i j=>.int (i % j)):=opI fun i j _ _ _ _ _ hc q=>by
 have h1:(0:Int) < j:=hc
 exact mod_int' (by lia) (by rw [Int.fmod_eq_emod_of_nonneg i (by lia)];exact q)
theorem Zis:OpR X (binaryOp .Pow) (rI CPow fun i j=>.int (i ^ j.toNat)):=opI fun _ _ _ _ _ _ _ hc q=>pow_int_small hc.1 hc.2.1 hc.2.2 q
theorem unI {f:Value->Sem Value} {g:Int->Int}
  (rule:∀ (i:Int) (t:Tok) (s:Shared) (Q:Value->Shared->Prop) (E:Value->Shared->Prop),Q (.int (g i) s.toks) { s with toks:=s.toks+1 }->wpAny (model X.prog X.w) X.A (f (.int i t)) Q E s) :
  UnR X f (rU fun i=>.int (g i)):=by
 intro pins s σ H x v Q I rx h
 obtain ⟨i,rfl,q⟩:=h
 obtain ⟨t,rfl⟩:=rx
 exact rule i t s _ _ ⟨.int (g i),H,I.tok _,⟨_,rfl⟩,q⟩
theorem Zce:UnR X (unaryOp .USub) (rU fun i=>.int (-i)):=unI fun _ _ _ _ _ q=>neg_int q
end
noncomputable def scal:V->V->Bool
 | .non,.non=>true|.non,.int _=>true|.int _,.non=>true|.non,.bl _=>true|.bl _,.non=>true|.non,.str _=>true|.str _,.non=>true
 | .int _,.int _=>true|.bl _,.bl _=>true|.str _,.str _=>true|.byt _,.byt _=>true
 | .int _,.str _=>true|.str _,.int _=>true|.bl _,.str _=>true|.str _,.bl _=>true
 | _,_=>false
noncomputable def rEq:R2:=fun x y H Q=>scal x y=true/\Q (.bl (decide (x=y))) H
noncomputable def rNe:R2:=fun x y H Q=>scal x y=true/\Q (.bl (!decide (x=y))) H
theorem ZgG {i j:Int}:decide (V.int i=V.int j)=(i == j):=by
 rw [Bool.eq_iff_iff]
 simp
theorem ZiG {i j:Bool}:decide (V.bl i=V.bl j)=(i == j):=by
 rw [Bool.eq_iff_iff]
 simp
theorem ZgF {i j:Str}:decide (V.str i=V.str j)=(i == j):=by
 rw [Bool.eq_iff_iff]
 simp
theorem ZkR {i j:Array UInt8}:decide (V.byt i=V.byt j)=(i.toList == j.toList):=by
 rw [Bool.eq_iff_iff]
 cases i
 cases j
 simp
section
variable {X:Cx} {a b c:Expr} {ta tb tc:TE} {pos:Pos}
theorem ZaX {pins:List (Addr×Obj)} {σ:St} {H:Hp} {s:Shared} {Q:VK} {k k':Bool} (I:Inv X pins σ H s) (q:Q (.bl k) H) (e:k=k'):EP X pins σ Q (.bool k') s:=by
 subst e
 exact ⟨.bl k,H,I,rfl,q⟩
theorem Zbc : OpR X (compareOp .Eq) rEq := by
  intro pins s σ H x y v u Q I rx ry h
  obtain ⟨hs, q⟩ := h
  cases x with
  | non =>
    cases rx
    cases y with
    | non => cases ry; exact PySem.EqNone.eq_none_none (ZaX I q (by simp))
    | bl j => cases ry; exact PySem.EqNone.eq_none_bool (ZaX I q (by simp))
    | int j => obtain ⟨t', rfl⟩ := ry; exact PySem.EqNone.eq_none_int (ZaX I q (by simp))
    | str j => obtain ⟨t', rfl⟩ := ry; exact PySem.EqNone.eq_none_str (ZaX I q (by simp))
    | _ => exact absurd (show false = true from hs) Bool.false_ne_true
  | bl i =>
    cases rx
    cases y with
    | non => cases ry; exact PySem.EqNone.eq_bool_none (ZaX I q (by simp))
    | bl j => cases ry; exact eq_bool (ZaX I q ZiG)
    | str j => obtain ⟨t', rfl⟩ := ry; exact PySem.EqMixed.eq_bool_str (ZaX I q (by simp))
    | _ => exact absurd (show false = true from hs) Bool.false_ne_true
  | int i =>
    obtain ⟨t, rfl⟩ := rx
    cases y with
    | non => cases ry; exact PySem.EqNone.eq_int_none (ZaX I q (by simp))
    | int j => obtain ⟨t', rfl⟩ := ry; exact eq_int (ZaX I q ZgG)
    | str j => obtain ⟨t', rfl⟩ := ry; exact PySem.EqMixed.eq_int_str (ZaX I q (by simp))
    | _ => exact absurd (show false = true from hs) Bool.false_ne_true
  | str i =>
    obtain ⟨t, rfl⟩ := rx
    cases y with
    | non => cases ry; exact PySem.EqNone.eq_str_none (ZaX I q (by simp))
    | bl j => cases ry; exact PySem.EqMixed.eq_str_bool (ZaX I q (by simp))
    | int j => obtain ⟨t', rfl⟩ := ry; exact PySem.EqMixed.eq_str_int (ZaX I q (by simp))
    | str j => obtain ⟨t', rfl⟩ := ry; exact eq_str (ZaX I q ZgF)
    | _ => exact absurd (show false = true from hs) Bool.false_ne_true
  | byt i =>
    obtain ⟨t, rfl⟩ := rx
    cases y with
    | byt j => obtain ⟨t', rfl⟩ := ry; exact PySem.W.eq_bytes (ZaX I q ZkR)
    | _ => exact absurd (show false = true from hs) Bool.false_ne_true
  | _ => cases y <;> exact absurd (show false = true from hs) Bool.false_ne_true
theorem Ze0 : OpR X (compareOp .NotEq) rNe := by
  intro pins s σ H x y v u Q I rx ry h
  obtain ⟨hs, q⟩ := h
  cases x with
  | non =>
    cases rx
    cases y with
    | non => cases ry; exact PySem.EqNone.ne_none_none (ZaX I q (by simp))
    | bl j => cases ry; exact PySem.EqNone.ne_none_bool (ZaX I q (by simp))
    | int j => obtain ⟨t', rfl⟩ := ry; exact PySem.EqNone.ne_none_int (ZaX I q (by simp))
    | str j => obtain ⟨t', rfl⟩ := ry; exact PySem.EqNone.ne_none_str (ZaX I q (by simp))
    | _ => exact absurd (show false = true from hs) Bool.false_ne_true
  | bl i =>
    cases rx
    cases y with
    | non => cases ry; exact PySem.EqNone.ne_bool_none (ZaX I q (by simp))
    | bl j => cases ry; exact ne_bool (ZaX I q (congrArg not ZiG))
    | str j => obtain ⟨t', rfl⟩ := ry; exact PySem.EqMixed.ne_bool_str (ZaX I q (by simp))
    | _ => exact absurd (show false = true from hs) Bool.false_ne_true
  | int i =>
    obtain ⟨t, rfl⟩ := rx
    cases y with
    | non => cases ry; exact PySem.EqNone.ne_int_none (ZaX I q (by simp))
    | int j => obtain ⟨t', rfl⟩ := ry; exact ne_int (ZaX I q (congrArg not ZgG))
    | str j => obtain ⟨t', rfl⟩ := ry; exact PySem.EqMixed.ne_int_str (ZaX I q (by simp))
    | _ => exact absurd (show false = true from hs) Bool.false_ne_true
  | str i =>
    obtain ⟨t, rfl⟩ := rx
    cases y with
    | non => cases ry; exact PySem.EqNone.ne_str_none (ZaX I q (by simp))
    | bl j => cases ry; exact PySem.EqMixed.ne_str_bool (ZaX I q (by simp))
    | int j => obtain ⟨t', rfl⟩ := ry; exact PySem.EqMixed.ne_str_int (ZaX I q (by simp))
    | str j => obtain ⟨t', rfl⟩ := ry; exact ne_str (ZaX I q (congrArg not ZgF))
    | _ => exact absurd (show false = true from hs) Bool.false_ne_true
  | byt i =>
    obtain ⟨t, rfl⟩ := rx
    cases y with
    | byt j => obtain ⟨t', rfl⟩ := ry; exact PySem.W.ne_bytes (ZaX I q (congrArg not ZkR))
    | _ => exact absurd (show false = true from hs) Bool.false_ne_true
  | _ => cases y <;> exact absurd (show false = true from hs) Bool.false_ne_true
theorem ZlU:OpR X (compareOp .Lt) (rI0 fun i j=>.bl (decide (i < j))):=opB0 fun _ _ _ _ _ _ _ q=>lt_int q
theorem op_le:OpR X (compareOp .LtE) (rI0 fun i j=>.bl (decide (i<=j))):=opB0 fun _ _ _ _ _ _ _ q=>le_int q
theorem ZnT:OpR X (compareOp .Gt) (rI0 fun i j=>.bl (decide (j < i))):=opB0 fun _ _ _ _ _ _ _ q=>gt_int q
theorem Zkb:OpR X (compareOp .In) (fun x y H Q=>∃ i j,x=.str i/\y=.str j/\Q (.bl (!(Builtin.Str.occurrences j i 0 j.length 1).isEmpty)) H):=by
 intro pins s σ H x y v u Q I rx ry h
 obtain ⟨i,j,rfl,rfl,q⟩:=h
 obtain ⟨t,rfl⟩:=rx
 obtain ⟨t',rfl⟩:=ry
 exact in_str (ZaX I q rfl)
theorem op_isN:OpR X (compareOp .Is) (fun x y H Q=>y=.non/\Q (.bl (decide (x=.non))) H):=by
 intro pins s σ H x y v u Q I rx ry h
 obtain ⟨rfl,q⟩:=h
 cases ry
 refine is_none_gen (ZaX I q ?_)
 cases x <;> first
  | (cases rx;rfl)
  | (obtain ⟨t,rfl⟩:=rx;rfl)
theorem ZnS:OpR X (compareOp .IsNot) (fun x y H Q=>y=.non/\Q (.bl (!decide (x=.non))) H):=by
 intro pins s σ H x y v u Q I rx ry h
 obtain ⟨rfl,q⟩:=h
 cases ry
 refine isnot_none_gen (ZaX I q ?_)
 cases x <;> first
  | (cases rx;rfl)
  | (obtain ⟨t,rfl⟩:=rx;rfl)
theorem Zas (b:Expr) {op:CmpOp} (h:op≠.In:=by decide) (h2:op≠.NotIn:=by decide):behindInMarks op b=false:=by
 have e1:(op == CmpOp.In)=false:=by cases op <;> first|rfl|exact absurd rfl h
 have e2:(op == CmpOp.NotIn)=false:=by cases op <;> first|rfl|exact absurd rfl h2
 cases b <;> simp [behindInMarks,e1,e2]
theorem Zfr {op:CmpOp} {r:R2} (ho:OpR X (compareOp op) r) (ha:PE X a ta) (hb:PE X b tb) (hm:behindInMarks op b=false):PE X (.Compare a [op] [b] pos) (tOp r ta tb):=by
 intro pins s σ H Q I h
 exact wpAny_Compare1 (binT ha hb I h fun v u s2 x y H2 I2 rx ry q=>ho pins s2 σ H2 x y v u Q I2 rx ry q) hm
noncomputable def ZiO (t:TE):TT:=fun σ H Q=>t σ H fun x H'=>∃ k,x=.bl k/\Q k H'
theorem Zal {op:CmpOp} {r:R2} (ho:OpR X (compareOp op) r) (ha:PE X a ta) (hb:PE X b tb) (hm:behindInMarks op b=false):PT X (.Compare a [op] [b] pos) (ZiO (tOp r ta tb)):=by
 intro pins s σ H Q I h
 refine wpAny_isTrue_Compare1 (thn (ha pins s σ H _ I h) fun v s1 ⟨x,H1,I1,r1,q1⟩=>thn (hb pins s1 σ H1 _ I1 q1) fun u s2 ⟨y,H2,I2,r2,q2⟩ =>
  thn (ho pins s2 σ H2 x y v u _ I2 r1 r2 q2) fun c s3 ⟨z,H3,I3,r3,k,e,q3⟩=>?_) hm
 subst e
 cases r3
 exact wpAny_truthy_bool ⟨H3,I3,q3⟩
noncomputable def Zmw (r r':R2) (ta tb tc:TE):TE:=fun σ H Q=>ta σ H fun x H1=>tb σ H1 fun y H2=>r x y H2 fun z H3=>∃ k,z=.bl k /\
 (if k=true then tc σ H3 fun w' H4=>r' y w' H4 Q else Q (.bl false) H3)
theorem ZlH {op op' : CmpOp} {r r' : R2} (ho : OpR X (compareOp op) r) (ho' : OpR X (compareOp op') r') (ha : PE X a ta) (hb : PE X b tb) (hc : PE X c tc)
    (hm : lastMarks [op, op'] [b, c] = false := by with_unfolding_all rfl) : PT X (.Compare a [op, op'] [b, c] pos) (ZiO (Zmw r r' ta tb tc)) := by
  intro pins s σ H Q I h
  refine isTrue_chain (thn (ha pins s σ H _ I h) fun v s1 ⟨x, H1, I1, r1, q1⟩ => test_link (thn (hb pins s1 σ H1 _ I1 q1) fun u s2 ⟨y, H2, I2, r2, q2⟩ =>
    thn (ho pins s2 σ H2 x y v u _ I2 r1 r2 q2) fun d s3 ⟨z, H3, I3, r3, k, e, q3⟩ => ?_)) hm
  subst e
  cases r3
  refine wpAny_truthy_bool ?_
  cases k with
  | false =>
    obtain ⟨k', e', q'⟩ := q3
    cases e'
    exact ite_ff ⟨H3, I3, q'⟩
  | true =>
    refine ite_tt (test_last (thn (hc pins s3 σ H3 _ I3 q3) fun w' s4 ⟨z', H4, I4, r4, q4⟩ => thn (ho' pins s4 σ H4 y z' u w' _ I4 r2 r4 q4) fun d' s5 ⟨z2, H5, I5, r5, k2, e2, q5⟩ => ?_))
    subst e2
    cases r5
    exact wpAny_truthy_bool ⟨H5, I5, q5⟩
theorem Zha:(sizeLine:Nat) < 2 ^ 63:=by rw [sizeLine_eq];decide
theorem ZiT:OpR X (binaryOp .Add) (fun x y H Q=>∃ i j,x=.str i/\y=.str j/\i.length+j.length<=sizeLine/\Q (.str (i++j)) H):=by
 intro pins s σ H x y v u Q I rx ry h
 obtain ⟨i,j,rfl,rfl,hz,q⟩:=h
 obtain ⟨t,rfl⟩:=rx
 obtain ⟨t',rfl⟩:=ry
 exact add_str (fun t' tk=>⟨.str (i++j),H,I.tok _,⟨_,rfl⟩,q⟩) hz
theorem ZgV {x:V} {us:List Value} (r:Vals [x] us):∃ u,us=[u]/\RelV x u:=by
 cases r with
 | cons r1 r2=>cases r2;exact ⟨_,rfl,r1⟩
theorem Zmj:Zc9 X (.builtin "abs") (fun xs H Q=>∃ i,xs=[.int i]/\Q (.int (if i < 0 then -i else i)) H):=by
 intro pins s σ H xs us Q I r h
 obtain ⟨i,rfl,q⟩:=h
 obtain ⟨u,rfl,t,rfl⟩:=ZgV r
 exact call_abs_int fun u tk=>⟨.int (if i < 0 then -i else i),H,I.tok _,⟨_,rfl⟩,q⟩
theorem Zk1:Zc9 X (.type "int") (fun xs H Q=>(∃ i,xs=[.int i]/\Q (.int i) H)\/∃ k,xs=[.bl k]/\Q (.int (if k then 1 else 0)) H):=by
 intro pins s σ H xs us Q I r h
 rcases h with ⟨i,rfl,q⟩|⟨k,rfl,q⟩
 ·obtain ⟨u,rfl,t,rfl⟩:=ZgV r
  exact call_int_int ⟨.int i,H,I,⟨_,rfl⟩,q⟩
 ·obtain ⟨u,rfl,r1⟩:=ZgV r
  cases r1
  exact call_int_bool ⟨.int (if k then 1 else 0),H,I.tok _,⟨_,rfl⟩,q⟩
theorem Zhm:Zc9 X (.type "str") (fun xs H Q=>∃ i,xs=[.int i]/\i.natAbs.log2 < 1920/\Q (.str (toString i)) H):=by
 intro pins s σ H xs us Q I r h
 obtain ⟨i,rfl,hz,q⟩:=h
 obtain ⟨u,rfl,t,rfl⟩:=ZgV r
 exact PySem.P.str_of_int hz ⟨.str _,H,I.tok _,⟨_,rfl⟩,q⟩
noncomputable def LenV (K:PySem.W.Frag) (x:V) (H:Hp) (n:Nat):Prop :=
 match x with
 | .str y=>y.length<=sizeLine/\n=y.length
 | .byt y=>y.size<=sizeLine/\n=y.size
 | .ref p=>(∃ xs,SqL K H p xs/\n=xs.length)\/∃ xs,SqT K H p xs/\n=xs.length
 | _=>False
theorem Zmi : Zc9 X (.builtin "len") (fun xs H Q => ∃ x n, xs = [x] /\ LenV X.K x H n /\ Q (.int n) H) := by
  intro pins s σ H xs us Q I r h
  obtain ⟨x, n, rfl, e, q⟩ := h
  obtain ⟨u, rfl, rx⟩ := ZgV r
  have hl := Zha
  have hs : sizeLine = 16777216 := sizeLine_eq
  cases x with
  | str y =>
    obtain ⟨t, rfl⟩ := rx
    obtain ⟨hy, e'⟩ : y.length <= sizeLine /\ n = y.length := e
    subst e'
    exact len_str (by lia) ⟨.int _, H, I.tok _, ⟨_, rfl⟩, q⟩
  | byt y =>
    obtain ⟨t, rfl⟩ := rx
    obtain ⟨hy, e'⟩ : y.size <= sizeLine /\ n = y.size := e
    subst e'
    exact PySem.W.len_bytes (by lia) ⟨.int _, H, I.tok _, ⟨_, rfl⟩, q⟩
  | ref p =>
    cases rx
    have e' : (∃ xs, SqL X.K H p xs /\ n = xs.length) \/ ∃ xs, SqT X.K H p xs /\ n = xs.length := e
    rcases e' with ⟨xs, hx, e'⟩ | ⟨xs, hx, e'⟩
    · subst e'
      obtain ⟨its, r', pl, hz⟩ := I.list hx
      have hlen := r'.length
      exact Calls.call_len_list pl.isList (by simp only [size_toArray]; lia) ⟨.int xs.length, H, I.tok _, ⟨_, by simp only [size_toArray]; rw [hlen]⟩, q⟩
    · subst e'
      obtain ⟨its, r', pl, hz⟩ := I.tuple hx
      have hlen := r'.length
      exact len_tuple pl (by simp only [size_toArray]; lia) ⟨.int xs.length, H, I.tok _, ⟨_, by simp only [size_toArray]; rw [hlen]⟩, q⟩
  | _ => exact (show False from e).elim
end
end L2
namespace L2
open PySem PySem.Spec PyProof.Rows
structure ObjM (h:Heap) (x dx C:Addr) (mA:Str->Option Value):Prop where
 obj:h.get? x=some (PySem.W.instObj C dx)
 ns:h.Ns1 dx mA
 ne:dx≠x
theorem Zkk {h:Heap} {dx:Addr} {mA:Str->Option Value} (n:h.Ns1 dx mA):∃ od,h.get? dx=some od/\∀ name,PySem.W.lookIn name od=some (mA name):=by
 obtain ⟨o,es,ep,ho,hd,hk,_,hm⟩:=n
 refine ⟨o,ho,fun name=>?_⟩
 have e:=hm name
 unfold nsFind findBy at e
 rw [<-Array.find?_toList] at e
 unfold PySem.W.lookIn
 rw [hd]
 dsimp only
 split
 ·rename_i y q
  rw [q] at e
  exact congrArg some e
 ·rename_i q
  rw [q] at e
  have a:es.toList.any (·.refKey)=false:=by
   rw [any_eq_false]
   intro y hy
   obtain ⟨z,t,hkey⟩:=hk y (Array.mem_toList_iff.mp hy)
   simp [DictEntry.refKey,hkey]
  have a':¬ es.toList.any (·.refKey)=true:=by rw [a];exact Bool.false_ne_true
  rw [if_neg a']
  exact congrArg some e
theorem ObjM.look {h:Heap} {x dx C:Addr} {mA:Str->Option Value} (I:ObjM h x dx C mA):∃ od,PySem.W.InstAt h x (PySem.W.instObj C dx) C (some od)/\∀ name,PySem.W.lookIn name od=some (mA name) :=
 let ⟨od,ho,hl⟩:=Zkk I.ns
 ⟨od,⟨I.obj,rfl,rfl,ho⟩,hl⟩
section
variable {prog:Program} {w:World} {A:Around} {E:Value->Shared->Prop} {s:Shared} {K:PySem.W.Frag} {x dx C f:Addr} {mA:Str->Option Value} {name:Str} {v:Value}
end
section
variable {P:Program} {w:World} {H H':Hp} {h h':Heap} {a C dx:Addr} {fs fs':List (Str×V)}
theorem ZkE (hok:HOk P w H h) (e:H a=some (.ins C dx fs)):∃ mA,ObjM h a dx C mA/\(∀ f,RelO (fs.lookup f) (mA f))/\PySem.Within mA (fs.map (·.1))/\fs.length<=1000/\H dx=some (.own a):=by
 obtain ⟨d,z,ne,ob,mA,n,r,q⟩:=(show ObjOk P w H h a (.ins C dx fs) from hok a _ e)
 exact ⟨mA,⟨ob,n,ne⟩,r,q,z,d⟩
end
structure Cls (K:PySem.W.Frag) (C:Addr):Prop where
 pg:PySem.W.plainGet K C Str.empty=true
 hd:PySem.W.hasDictIn K C=true
 po:PySem.W.plainOver K C=true
 sa:PySem.W.findIn K (.ref C) "__setattr__"=some (some (.builtin "object.__setattr__"))
theorem Cls.get {K:PySem.W.Frag} {C:Addr} (c:Cls K C) (f:Str):PySem.W.plainGet K C f=true:=c.pg
section
variable {X:Cx} {pins:List (Addr×Obj)} {σ:St} {H:Hp} {s:Shared} {a C dx:Addr} {fs:List (Str×V)} {f:Str} {v:V} {A:Around} {E:Value->Shared->Prop}
end
section
variable {X:Cx} {o e value:Expr} {f:Str} {pos pos' tpos:Pos} {ta tv:TE}
end
section
variable {X:Cx} {pins:List (Addr×Obj)} {σ:St} {H:Hp} {s:Shared} {A:Around} {E:Value->Shared->Prop} {Q:Value->Shared->Prop} {c:Value} {b:Bool}
inductive TyOf (K:PySem.W.Frag) (H:Hp):V->Value->Prop where
 | non:TyOf K H .non (.type "NoneType")
 | bl (x:Bool):TyOf K H (.bl x) (.type "bool")
 | int (i:Int):TyOf K H (.int i) (.type "int")
 | str (x:Str):TyOf K H (.str x) (.type "str")
 | flt (x:UInt64):TyOf K H (.flt x) (.type "float")
 | lst {a:Addr} {xs:List V} (e:H a=some (.lst xs)):TyOf K H (.ref a) (.type "list")
 | frz {a:Addr} {o:Obj} {xs:List V} (e:H a=some (.frz o (.lst xs))):TyOf K H (.ref a) (.type "list")
 | tup {a:Addr} {xs:List V} (e:H a=some (.tup xs)):TyOf K H (.ref a) (.type "tuple")
 | dK {a:Addr} {kvs:List (Key×V)} (e:H a=some (.dK kvs)):TyOf K H (.ref a) (.type "dict")
 | dT {a:Addr} {kvs:List (List Key×V)} (e:H a=some (.dT kvs)):TyOf K H (.ref a) (.type "dict")
 | ins {a C dx:Addr} {fs:List (Str×V)} (e:H a=some (.ins C dx fs)) (cl:Cls K C) (ha:PySem.W.findIn K (.ref C) "__class__"=some (some (.builtin "object.__class__")))
   (hn:PySem.W.specialIn K (.builtin "object.__class__") "__get__"=some (some (.builtin "getset_descriptor.__get__"))) (htk:PySem.W.takesIn K (.builtin "object.__class__")=some true)
   (hm:PySem.W.mroIn K C (.type "object")=some true):TyOf K H (.ref a) (.ref C)
theorem ZkD {x : V} {u t : Value} (I : Inv X pins σ H s) (rx : RelV x u) (ty : TyOf X.K H x t) (e : PySem.W.kitOne X.K t c = some b) (h : ∀ tk, Q (.bool b) { s with toks := tk }) :
    wpAny (model X.prog X.w) A (call (.builtin "isinstance") [u, c]) Q E s := by
  cases ty with
  | non => cases (show u = Value.none from rx); exact PySem.W.kia_one PySem.W.kitx_none I.kIn True.intro e (fun z => nomatch z) h
  | bl y => cases (show u = Value.bool y from rx); exact PySem.W.kia_one PySem.W.kitx_bool I.kIn True.intro e (fun z => nomatch z) h
  | int i => obtain ⟨t, q⟩ := (show ∃ t, u = Value.int i t from rx); cases q; exact PySem.W.kia_one PySem.W.kitx_int I.kIn True.intro e (fun z => nomatch z) h
  | str y => obtain ⟨t, q⟩ := (show ∃ t, u = Value.str y t from rx); cases q; exact PySem.W.kia_one PySem.W.kitx_str I.kIn True.intro e (fun z => nomatch z) h
  | flt y => obtain ⟨t, q⟩ := (show ∃ t, u = Value.float y t from rx); cases q; exact PySem.W.kia_one PySem.W.kitx_float I.kIn True.intro e (fun z => nomatch z) h
  | @lst a xs ea =>
    cases (show u = Value.ref a from rx)
    obtain ⟨_, _, n, _, h1⟩ := (show ObjOk X.prog X.w H s.heap a (.lst xs) from I.hok a _ ea)
    exact PySem.W.kia_one PySem.W.kitx_list I.kIn ⟨_, h1, rfl⟩ e (fun z => nomatch z) h
  | @frz a ob xs ea =>
    cases (show u = Value.ref a from rx)
    obtain ⟨_, _, _, n, _, h1⟩ := (show ObjOk X.prog X.w H s.heap a (.frz ob (.lst xs)) from I.hok a _ ea)
    exact PySem.W.kia_one PySem.W.kitx_list I.kIn ⟨_, h1, rfl⟩ e (fun z => nomatch z) h
  | @tup a xs ea =>
    cases (show u = Value.ref a from rx)
    obtain ⟨_, _, _, p⟩ := (show ObjOk X.prog X.w H s.heap a (.tup xs) from I.hok a _ ea)
    obtain ⟨o, h1, h2, _⟩ := p
    exact PySem.W.kia_one PySem.W.kitx_tuple I.kIn ⟨o, h1, h2⟩ e (fun z => nomatch z) h
  | @dK a kvs ea =>
    cases (show u = Value.ref a from rx)
    obtain ⟨_, _, vs, _, p⟩ := (show ObjOk X.prog X.w H s.heap a (.dK kvs) from I.hok a _ ea)
    obtain ⟨o, es, ep, h1, h2, _⟩ := p
    exact PySem.W.kia_one PySem.W.kitx_dict I.kIn ⟨o, h1, h2.1⟩ e (fun z => nomatch z) h
  | @dT a kvs ea =>
    cases (show u = Value.ref a from rx)
    obtain ⟨_, _, xs, _, o, es, ep, h1, h2, _⟩ := (show ObjOk X.prog X.w H s.heap a (.dT kvs) from I.hok a _ ea)
    exact PySem.W.kia_one PySem.W.kitx_dict I.kIn ⟨o, h1, h2.1⟩ e (fun z => nomatch z) h
  | @ins a C dx fs ea cl ha hn htk hm =>
    cases (show u = Value.ref a from rx)
    obtain ⟨mA, O, _⟩ := ZkE I.hok ea
    obtain ⟨od, J, _⟩ := O.look
    exact PySem.W.kia_one (PySem.W.kitx_own (cl.get _) cl.hd ha hn htk hm) I.kIn J e (fun z => nomatch z) h
end
end L2
namespace L2
open PySem PySem.Spec PyProof.Rows
structure Room (k:Nat) (A:Around):Prop where
 hd:A.handled=none
 dp:A.depth+3 * k+5 < recursionLimit
 un:A.units+16 * k+200 < cLine
theorem Room.mono {j k:Nat} {A:Around} (r:Room k A) (h:j<=k):Room j A:=⟨r.hd,by have:=r.dp;lia,by have:=r.un;lia⟩
theorem Room.deeper {k:Nat} {A:Around} (r:Room (k+1) A) (env:Env):Room k (A.deeper env) :=
 ⟨r.hd,by have:=r.dp;show A.depth+1+3 * k+5 < _;lia,by have:=r.un;show A.units+3+16 * k+200 < _;lia⟩
theorem Room.depth {k:Nat} {A:Around} (r:Room k A):A.depth < recursionLimit:=by have:=r.dp;lia
theorem Room.units {k:Nat} {A:Around} (r:Room k A):A.units+64 < cLine:=by have:=r.un;lia
noncomputable def tNil:TA:=fun _ H Q=>Q [] H
noncomputable def Zc0 (ta:TE) (tr:TA):TA:=fun σ H Q=>ta σ H fun x H1=>tr σ H1 fun xs H2=>Q (x::xs) H2
section
variable {X:Cx} {e:Expr} {es:List Expr} {te:TE} {t:TA} {pos:Pos}
theorem Zab:PA X [] tNil:=fun _ _ _ _ H Q I h=>Calls.spliced_nil ⟨[],H,I,.nil,h⟩
theorem ZcX (ha:PE X e te) (hr:PA X es t) (hs:starEach (e::es) X.env=(false,eval e X.env)::starEach es X.env:=by rfl):PA X (e::es) (Zc0 te t):=by
 intro pos pins s σ H Q I h
 rw [hs]
 show wpAny _ _ (spliced ((false,eval e X.env)::backTo pos (starEach es X.env))) _ _ s
 refine Calls.spliced_cons (thn (ha pins s σ H _ I h) fun u s1 ⟨x,H1,I1,r1,q1⟩=>?_)
 exact thn (hr pos pins s1 σ H1 _ I1 q1) fun us s2 ⟨xs,H2,I2,r2,q2⟩=>⟨x::xs,H2,I2,.cons r1 r2,q2⟩
noncomputable def tTup (t:TA):TE:=fun σ H Q=>t σ H fun xs H1=>xs.length<=sizeLine/\∀ p,H1 p=none->Q (.ref p) (upd H1 p (.tup xs))
noncomputable def tLst (t:TA):TE:=fun σ H Q=>t σ H fun xs H1=>xs.length<=sizeLine/\∀ p,H1 p=none->Q (.ref p) (upd H1 p (.lst xs))
theorem Zbb {x1} (h:PA X es t):PE X (.Tuple es x1 pos) (tTup t):=by
 intro pins s σ H Q I hq
 refine wpAny_Tuple_spliced (thn (h pos pins s σ H _ I hq) fun us s1 ⟨xs,H1,I1,r,z,q⟩=>⟨by rw [<-r.length];exact z,?_⟩)
 have hf:H1 s1.heap.objs.size=none:=I1.hok.fresh (Nat.le_refl _)
 refine ⟨.ref s1.heap.objs.size,upd H1 s1.heap.objs.size (.tup xs),I1.laid (t':=s1.toks) (fun b u e=>Heap.get?_push_of_some _ e) (Nat.le_refl _) ?_,rfl,q _ hf⟩
 exact ⟨z,us,r,⟨_,Heap.get?_push_size _ rfl,rfl,_,rfl⟩⟩
theorem Zba (h:PA X es t):PE X (.List es pos) (tLst t):=by
 intro pins s σ H Q I hq
 refine wpAny_List_spliced (thn (h pos pins s σ H _ I hq) fun us s1 ⟨xs,H1,I1,r,z,q⟩=>⟨by rw [<-r.length];exact z,?_⟩)
 have hf:H1 s1.heap.objs.size=none:=I1.hok.fresh (Nat.le_refl _)
 refine ⟨.ref s1.heap.objs.size,upd H1 s1.heap.objs.size (.lst xs),I1.laid (t':=s1.toks) (fun b u e=>Heap.get?_push_of_some _ e) (Nat.le_refl _) ?_,rfl,q _ hf⟩
 exact ⟨z,us,0,r,Heap.get?_push_size _ rfl⟩
end
noncomputable abbrev Sp:=List V->Hp->VK->XK->Prop
noncomputable abbrev CXT:=List Env->Hp->Shared->XK->Value->Shared->Prop
structure Env0 (P:Program) (w:World) (K:PySem.W.Frag) (mg:Str->Option Value) (base:Heap) (A:Around) (outer:List Env) (s:Shared) (H:Hp):Prop where
 frames:A.frames=some outer
 mod:Mod K mg base
 bs:∀ b o,base.get? b=some o->s.heap.get? b=some o/\H b=none
 bsz:base.objs.size<=s.heap.objs.size
 funs:s.heap.FunFrames base outer
 frf:∀ b∈frs outer,H b=none
 hok:HOk P w H s.heap
 bare:AllBare s.gens
noncomputable def CE (outer:List Env) (P:Program) (w:World) (H:Hp) (s:Shared) (Q:VK) (u:Value) (s':Shared):Prop :=
 ∃ v H',s'.os=s.os/\AllBare s'.gens/\Un (frs outer) [] H H' s.heap s'.heap/\HOk P w H' s'.heap/\RelV v u/\Q v H'
noncomputable def CR (CX:CXT) (outer:List Env) (P:Program) (w:World) (H:Hp) (s:Shared) (Q:VK) (E:XK) (r:Result) (s':Shared):Prop :=
 match r with
 | .ok (.ret u)=>CE outer P w H s Q u s'
 | .ok _=>False
 | .error e=>CX outer H s E e s'
structure FnOk (P:Program) (w:World) (K:PySem.W.Frag) (mg:Str->Option Value) (base:Heap) (CX:CXT) (k:Nat) (f:Addr) (fd:FuncData) (ps:List Str) (sp:Sp):Prop where
 len:∀ vs H Q E,sp vs H Q E->vs.length=ps.length
 run:∀ (A:Around) (outer:List Env) (s:Shared) (H:Hp) (args:Args) (us:List Value) (vs:List V) (Q:VK) (E:XK),Room k A->Env0 P w K mg base A outer s H->BindsTo s fd args (ps.zip us)->Vals vs us->sp vs H Q E ->
  codeAny (model P w) A (.call (.ref f) args) (CR CX outer P w H s Q E) s
section
variable {X:Cx} {pins:List (Addr×Obj)} {σ:St} {H:Hp} {s s':Shared}
theorem Inv.env0 (I:Inv X pins σ H s):Env0 X.prog X.w X.K X.mg X.base X.A X.stack s H :=
 ⟨I.ok.frames,I.ok.mod,I.bs,Nat.le_trans I.ok.bsz I.sz,I.stack,I.stkFree,I.hok,I.bare⟩
theorem Inv.after {Q:VK} {u:Value} (I:Inv X pins σ H s) (h:CE X.stack X.prog X.w H s Q u s'):EP X pins σ Q u s':=by
 obtain ⟨v,H',os,bare,un,hok,r,q⟩:=h
 obtain ⟨hh,g,d,t,os'⟩:=s'
 obtain rfl:os'=s.os:=os
 exact ⟨v,H',I.call (h':=hh) (g':=g) (d':=d) (t':=t) (ch:=[]) un hok bare (fun b z=>absurd z (by simp)),r,q⟩
end
noncomputable def ZgY (sp:Sp) (dvs:List V) (E:XK) (t:TA):TE:=fun σ H Q=>t σ H fun vs H1=>sp (vs++dvs) H1 Q E
noncomputable def Binds (K:PySem.W.Frag) (fd:FuncData) (ps:List Str) (ds:List Value):Prop :=
 ∀ (s:Shared) (us:List Value),K.In s.heap->(us++ds).length=ps.length->BindsTo s fd ⟨us,[]⟩ (ps.zip (us++ds))
theorem Binds.all {K:PySem.W.Frag} {fd:FuncData} {ps:List Str} (h:∀ us:List Value,us.length=ps.length->bindArgs fd ⟨us,[]⟩=pure (ps.zip us)):Binds K fd ps []:=fun s us _ hl=>by
 rw [append_nil] at hl ⊢
 exact .of_eq (h us hl)
noncomputable def Zge (CX:CXT) (X:Cx) (E:XK):Prop:=∀ (pins:List (Addr×Obj)) (σ:St) (H:Hp) (s:Shared) (e:Value) (s':Shared),Inv X pins σ H s->CX X.stack H s E e s'->X.xe e s'
section
variable {X:Cx} {CX:CXT} {k:Nat} {f C:Addr} {fd:FuncData} {ps:List Str} {sp:Sp} {dvs:List V} {ds:List Value} {E:XK} {x m:Str} {p pos apos:Pos} {e o:Expr} {es:List Expr} {ta:TE} {t:TA}
theorem Zmx {pins : List (Addr × Obj)} {σ : St} {H : Hp} {s : Shared} {Q : VK} {us : List Value} {vs : List V} (F : FnOk X.prog X.w X.K X.mg X.base CX k f fd ps sp) (hr : Room k X.A) (hb : Binds X.K fd ps ds) (hd : Vals dvs ds) (hx : Zge CX X E)
    (I : Inv X pins σ H s) (r : Vals vs us) (h : sp (vs ++ dvs) H Q E) : wpAny (model X.prog X.w) X.A (call (.ref f) us) (EP X pins σ Q) X.xe s := by
  have r2 : Vals (vs ++ dvs) (us ++ ds) := r.append hd
  have hl : (us ++ ds).length = ps.length := by rw [<- r2.length]; exact F.len _ _ _ _ h
  refine wpAny_call (codeAny_mono (F.run X.A X.stack s H ⟨us, []⟩ (us ++ ds) (vs ++ dvs) Q E hr I.env0 (hb s us I.kIn hl) r2 h) fun r s' hq => ?_)
  cases r with
  | error e => exact hx pins σ H s e s' I hq
  | ok fl =>
    cases fl with
    | ret u => exact I.after hq
    | next => exact False.elim hq
    | brk => exact False.elim hq
    | cont => exact False.elim hq
theorem ZhK (F:FnOk X.prog X.w X.K X.mg X.base CX k f fd ps sp) (hr:Room k X.A) (hg:Gl X x) (hm:X.mg x=some (.ref f)) (hk:PySem.W.keepIn X.K (.ref f)=true) (hb:Binds X.K fd ps ds) (hd:Vals dvs ds) (hx:Zge CX X E)
  (ha:PA X (e::es) t) (hdb:(x == ("__debug__":Str))=false:=by decide) (he:starEach (e::es) X.env=(false,eval e X.env)::starEach es X.env:=by rfl) (hpl:(backTo pos (starEach es X.env)).any (·.1)=false:=by rfl) :
  PE X (.Call (.Name x p) (e::es) [] pos) (ZgY sp dvs E t):=by
 intro pins s σ H Q I h
 refine wpAny_Call_Name_kw (ZdI I hg hm ?_ hdb)
 refine PySem.W.callWith_K (h₀:=X.base) I.ok.mod.kin hk (thn (ha pos pins s σ H _ I h) fun us s1 ⟨vs,H1,I1,r,q⟩=>⟨I1.kIn,?_⟩) he hpl
 exact Zmx F hr hb hd hx I1 r q
end
section
variable {X:Cx} {CX:CXT} {k:Nat} {f C:Addr} {fd:FuncData} {ps ks:List Str} {sp:Sp} {E:XK} {x m:Str} {p pos apos kpos:Pos} {e o:Expr} {es:List Expr} {kws:List Keyword} {te ta:TE} {t tk:TA} {nm:Option Str}
variable {g:List Value->List Value->List Value} {gV:List V->List V->List V}
end
structure FnScope (N P:List Str) (sc:Scope):Prop where
 kind:sc.kind=.function
 co:sc.isCoroutine=false
 gen:sc.isGenerator=false
 nd:N.Nodup
 pre:N.take P.length=P
 par:∀ x∈P,sc.names.lookup x=some .local\/sc.names.lookup x=some .cell
 nofree:∀ y∈sc.names,y.2≠.free
theorem Zhu {kindOf : Str -> Option NameKind} {x : Str} : ∀ {binds : List (Str × Value)} {m : Str -> Option Value}, (∀ v, (x, v) ∉ binds) -> bindL kindOf binds m x = m x
  | [], _, _ => rfl
  | (n, v) :: r, m, h => by
    unfold bindL
    rw [Zhu fun w hw => h w (mem_cons_of_mem _ hw)]
    split
    · have : x ≠ n := by rintro rfl; exact h v mem_cons_self
      simp [this]
    · rfl
theorem Zhw {kindOf : Str -> Option NameKind} {x : Str} : ∀ {binds : List (Str × Value)} {m : Str -> Option Value}, (∀ v, (x, v) ∉ binds) -> bindC kindOf binds m x = m x
  | [], _, _ => rfl
  | (n, v) :: r, m, h => by
    unfold bindC
    rw [Zhw fun w hw => h w (mem_cons_of_mem _ hw)]
    split
    · rfl
    · have : x ≠ n := by rintro rfl; exact h v mem_cons_self
      simp [this]
theorem Zhv {kindOf : Str -> Option NameKind} {x : Str} {v : Value} : ∀ {P : List Str} {vs : List Value} {i : Nat} {m : Str -> Option Value}, P.Nodup -> P[i]? = some x -> vs[i]? = some v -> kindOf x = some .local ->
    bindL kindOf (P.zip vs) m x = some v
  | [], _, _, _, _, h, _, _ => by simp at h
  | _ :: _, [], _, _, _, _, h, _ => by simp at h
  | p :: P, w :: vs, 0, m, nd, h1, h2, hk => by
    simp at h1 h2; subst h1; subst h2
    show bindL kindOf ((p, w) :: P.zip vs) m p = _
    unfold bindL
    rw [Zhu fun v hv => (nodup_cons.mp nd).1 (of_mem_zip hv).1, if_pos hk]
    simp
  | p :: P, w :: vs, i + 1, m, nd, h1, h2, hk => by
    show bindL kindOf ((p, w) :: P.zip vs) m x = _
    unfold bindL
    exact Zhv (i := i) (nodup_cons.mp nd).2 (by simpa using h1) (by simpa using h2) hk
theorem Zhx {kindOf : Str -> Option NameKind} {x : Str} {v : Value} : ∀ {P : List Str} {vs : List Value} {i : Nat} {m : Str -> Option Value}, P.Nodup -> P[i]? = some x -> vs[i]? = some v -> kindOf x ≠ some .local ->
    bindC kindOf (P.zip vs) m x = some v
  | [], _, _, _, _, h, _, _ => by simp at h
  | _ :: _, [], _, _, _, _, h, _ => by simp at h
  | p :: P, w :: vs, 0, m, nd, h1, h2, hk => by
    simp at h1 h2; subst h1; subst h2
    show bindC kindOf ((p, w) :: P.zip vs) m p = _
    unfold bindC
    rw [Zhw fun v hv => (nodup_cons.mp nd).1 (of_mem_zip hv).1, if_neg hk]
    simp
  | p :: P, w :: vs, i + 1, m, nd, h1, h2, hk => by
    show bindC kindOf ((p, w) :: P.zip vs) m x = _
    unfold bindC
    exact Zhx (i := i) (nodup_cons.mp nd).2 (by simpa using h1) (by simpa using h2) hk
noncomputable def ZdD (N:List Str) (vs:List V):St:=vs.map some++List.replicate (N.length - vs.length) none
noncomputable def cxOf (CX:CXT) (P:Program) (w:World) (K:PySem.W.Frag) (mg:Str->Option Value) (base:Heap) (N:List Str) (qual:Str) (scope:Scope) (f:Addr) (cd:Value) (A:Around) (outer:List Env) (s:Shared) (H:Hp) (E:XK):Cx where
 prog:=P
 w:=w
 K:=K
 mg:=mg
 base:=base
 A:=A.deeper (envOfC qual scope s.heap.objs.size f cd)
 N:=N
 s₀:=s
 H₀:=H
 env:=envOfC qual scope s.heap.objs.size f cd
 outer:=outer
 stack:=envOfC qual scope s.heap.objs.size f cd::outer
 ex:=[]
 calm:=true
 fn:=fun _=>true
 pn:=[]
 xe:=fun e s'=>wpAny (model P w) (A.deeper (envOfC qual scope s.heap.objs.size f cd)) (leaving (envOfC qual scope s.heap.objs.size f cd) e) (fun _ s''=>CX outer H s E e s'') (fun e' s''=>CX outer H s E e' s'') s'
theorem ZiH {sc:Scope} {n:Nat} {x:Str} (h:sc.names.lookup x=some .cell):∃ c,(cellsFrom n sc.names []).lookup x=some c:=by
 have q:=PySem.W.cellsFrom_some sc.names n [] (.inl h)
 exact Option.isSome_iff_exists.mp q
theorem Zhh {CX:CXT} {P:Program} {w:World} {K:PySem.W.Frag} {mg:Str->Option Value} {base:Heap} {N ps:List Str} {qual:Str} {scope:Scope} {f:Addr} {cd:Value} {A:Around} {outer:List Env} {s s1:Shared} {H:Hp} {E:XK} {us:List Value} {vs:List V}
  (S:FnScope N ps scope) (hd:A.handled=none) (e0:Env0 P w K mg base A outer s H) (hl:vs.length=ps.length) (r:Vals vs us)
  (x:InCallC s s.heap.objs.size (bindL (envOfC qual scope s.heap.objs.size f cd).kindOf (ps.zip us) fun _=>none) (cellsFrom (s.heap.objs.size+1) scope.names []) (bindC (envOfC qual scope s.heap.objs.size f cd).kindOf (ps.zip us) fun _=>none) s1) :
  Inv (cxOf CX P w K mg base N qual scope f cd A outer s H E) [] (ZdD N vs) H s1:=by
 have hpl:ps.length<=N.length:=by have:=congrArg List.length S.pre;rw [length_take] at this;lia
 obtain ⟨h1,tk,rfl,hk⟩:=x.done
 have noA:∀ b:Addr,b∉(cxOf CX P w K mg base N qual scope f cd A outer s H E).ex:=fun b z=>absurd (show b∈([]:List Addr) from z) (by simp)
 refine ⟨⟨e0.mod,S.kind,rfl,rfl,Nat.le_refl _,fun y z c h1 h2=>?_,fun y hy=>?_,fun y c _ h=>?_,fun _=>hd,Around.frames_deeper e0.frames,.inr ⟨rfl,rfl⟩,fun b z=>absurd z (noA b),e0.bs,e0.bsz,fun b _ _=>noA b,fun b z=>absurd z (noA b),e0.funs,e0.frf⟩,
  rfl,e0.bare,Un.kept hk,⟨_,x.toInCall.ns,fun i y v h1 h2 h3=>?_⟩,fun y c h=>⟨_,x.cell y c h⟩,e0.hok.fresh (Nat.le_refl _),fun y c h=>?_,fun p hp=>absurd (show p∈([]:List (Addr×Obj)) from hp) (by simp),e0.hok.kept hk,?_⟩
 ·exact name_of_addr x.apart (PySem.mem_of_lookup h1) (PySem.mem_of_lookup h2)
 ·have hy:scope.names.lookup y=some .cell\/scope.names.lookup y=some .free:=hy
  rcases hy with hy|hy
  ·exact ZiH hy
  ·exact absurd rfl (S.nofree _ (PySem.mem_of_lookup hy))
 ·exact Nat.le_of_lt (x.above y c (PySem.mem_of_lookup h))
 ·have hi:i < vs.length:=by
   unfold ZdD at h2
   by_cases hi:i < vs.length
   ·exact hi
   ·rw [getElem?_append_right (by simpa using hi)] at h2
    rw [getElem?_replicate] at h2
    split at h2 <;> cases h2
  have ha:vs[i]?=some v:=by
   unfold ZdD at h2
   rw [getElem?_append_left (by simpa using hi),getElem?_map] at h2
   cases e:vs[i]? with
   | none=>rw [e] at h2;cases h2
   | some a=>rw [e] at h2;cases h2;rfl
  obtain ⟨u,hu,rv⟩:=r.get ha
  have hp:ps[i]?=some y:=by
   rw [<-S.pre,getElem?_take_of_lt (by lia)];exact h1
  have ndP:ps.Nodup:=by rw [<-S.pre];exact S.nd.sublist (take_sublist _ _)
  refine ⟨u,rv,?_⟩
  rcases S.par y (mem_of_getElem? hp) with k|k
  ·exact .inl ⟨k,Zhv ndP hp hu k⟩
  ·obtain ⟨c,e⟩:=ZiH (n:=s.heap.objs.size+1) k
   refine .inr ⟨.inl k,c,e,?_⟩
   have q:=x.cell y c e
   rw [Zhx ndP hp hu (by show scope.names.lookup y≠_;rw [k];decide)] at q
   exact q
 ·exact e0.hok.fresh (Nat.le_of_lt (x.above y c (PySem.mem_of_lookup h)))
 ·unfold ZdD
  show _=N.length
  rw [length_append,length_map,length_replicate]
  lia
theorem fn_of {CX : CXT} {P : Program} {w : World} {K : PySem.W.Frag} {mg : Str -> Option Value} {base : Heap} {k : Nat} {f : Addr} {name qual : Str} {params : Arguments} {body : List Stmt} {scope : Scope} {dV kV doc pm cdv ct oc : Value} {an od : Option Addr}
    {osl : Array (Option Value)} {N ps : List Str} {sp : Sp} (lk : K.lookup f = some ⟨oc, od, .func (PySem.W.fnOf name qual params body scope dV kV doc pm an cdv ct), osl⟩) (hcd : PySem.W.codeIn K cdv qual = true) (S : FnScope N ps scope)
    (len : ∀ vs H Q E, sp vs H Q E -> vs.length = ps.length)
    (hbody : ∀ (A : Around) (outer : List Env) (s : Shared) (H : Hp) (vs : List V) (Q : VK) (E : XK), Room k (A.deeper (envOfC qual scope s.heap.objs.size f cdv)) -> sp vs H Q E ->
      ∃ t, PSs (cxOf CX P w K mg base N qual scope f cdv A outer s H E) body t /\ t { nx := fun _ H' => Q .non H', rt := Q } (ZdD N vs) H) :
    FnOk P w K mg base CX (k + 1) f (PySem.W.fnOf name qual params body scope dV kV doc pm an cdv ct) ps sp := by
  refine ⟨len, fun A outer s H args us vs Q E hr e0 hb r hsp => ?_⟩
  have hl := len _ _ _ _ hsp
  have KX : K.In s.heap := e0.mod.kin.keeps fun b o e => (e0.bs b o e).1
  have lim : s.heap.NoLimit := e0.mod.nolimit.keeps fun b o e => (e0.bs b o e).1
  have hkind : ∀ y ∈ ps.zip us, scope.names.lookup y.1 = some .local \/ (scope.names.lookup y.1 = some .cell /\ ((cellsFrom (s.heap.objs.size + 1) scope.names []).lookup y.1).isSome = true) := fun ⟨n, v⟩ hy => by
    rcases S.par n (of_mem_zip hy).1 with q | q
    · exact .inl q
    · exact .inr ⟨q, PySem.W.cellsFrom_some _ _ _ (.inl q)⟩
  refine codeAny_call_function hr.depth (KX _ _ lk) rfl S.co S.gen rfl (PySem.W.codeRec_of KX hcd) (hb _ _ _ _ ?_)
  refine wpAny_newFunctionEnv_cells S.kind hkind fun env he s1 x => ?_
  subst he
  refine ⟨lim.keeps x.toInCall.keep, codeAny_func ?_⟩
  obtain ⟨t, ht, hq⟩ := hbody A outer s H vs Q E (hr.deeper _) hsp
  have I : Inv (cxOf CX P w K mg base N qual scope f cdv A outer s H E) [] (ZdD N vs) H s1 := Zhh S hr.hd e0 hl r x
  refine wpAny_mono (ht [] s1 (ZdD N vs) H _ I hq) (fun fl s' hs => ?_) fun e s' hs => hs
  have fin : ∀ {σ' : St} {H' : Hp} {v : V} {u : Value}, Inv (cxOf CX P w K mg base N qual scope f cdv A outer s H E) [] σ' H' s' -> RelV v u -> Q v H' -> CE outer P w H s Q u s' :=
    fun {σ' H' v u} J rv q => ⟨v, H', J.os, J.bare, J.base, J.hok, rv, q⟩
  cases fl with
  | ret u =>
    obtain ⟨v, σ', H', J, rv, q⟩ := hs
    exact fin J rv q
  | next =>
    obtain ⟨σ', H', J, q⟩ := hs
    exact fin (v := V.non) (u := Value.none) J rfl q
  | brk =>
    obtain ⟨_, _, _, q⟩ := hs
    exact False.elim q
  | cont =>
    obtain ⟨_, _, _, q⟩ := hs
    exact False.elim q
end L2
namespace L2
open PySem PySem.Spec PyProof.Rows
section
variable {X:Cx} {x:Str} {p pos:Pos} {e:Expr} {es:List Expr} {t:TA} {id T:String} {r:List V->Hp->VK->Prop}
noncomputable def tCB (r:List V->Hp->VK->Prop) (t:TA):TE:=fun σ H Q=>t σ H fun vs H1=>r vs H1 Q
theorem Zaw (hc:Zc9 X (.builtin id) r) (hg:Gl X x) (hm:X.mg x=none) (hv:bootBuiltins x=some (.builtin id)) (ha:PA X (e::es) t) (hn:x≠"__name__":=by decide) (hdb:(x == ("__debug__":Str))=false:=by decide)
  (he:starEach (e::es) X.env=(false,eval e X.env)::starEach es X.env:=by rfl) (hpl:(backTo pos (starEach es X.env)).any (·.1)=false:=by rfl):PE X (.Call (.Name x p) (e::es) [] pos) (tCB r t):=by
 intro pins s σ H Q I h
 refine wpAny_Call_Name_kw (Zix I hg hm hv ?_ hn hdb)
 exact PyProof.Rows.callWith_builtin1 (thn (ha pos pins s σ H _ I h) fun us s1 ⟨vs,H1,I1,r1,q1⟩=>hc pins s1 σ H1 vs us Q I1 r1 q1) he hpl
theorem ZaI (hc:Zc9 X (.type T) r) (hg:Gl X x) (hm:X.mg x=none) (hv:bootBuiltins x=some (.type T)) (ha:PA X (e::es) t) (hn:x≠"__name__":=by decide) (hdb:(x == ("__debug__":Str))=false:=by decide)
  (he:starEach (e::es) X.env=(false,eval e X.env)::starEach es X.env:=by rfl) (hpl:(backTo pos (starEach es X.env)).any (·.1)=false:=by rfl):PE X (.Call (.Name x p) (e::es) [] pos) (tCB r t):=by
 intro pins s σ H Q I h
 refine wpAny_Call_Name_kw (Zix I hg hm hv ?_ hn hdb)
 exact PyProof.Rows.callWith_type1 (thn (ha pos pins s σ H _ I h) fun us s1 ⟨vs,H1,I1,r1,q1⟩=>hc pins s1 σ H1 vs us Q I1 r1 q1) he hpl
end
end L2
namespace HT
open PySem PyProof.Rows
section
open PySem.SeqAt
open PySem.AutoSeq1 (wpAny_loadPart')
open PySem.MeetsSeq PySem.MeetsSeq2 PySem.MeetsSeq3
end
section
variable {prog:Program} {w:World} {A:Around} {E:Value->Shared->Prop} {s:Shared}
theorem cat_tup {t b:Addr} {vs ws:List Value} {Q:Value->Shared->Prop} (ht:IsTup s.heap t vs.toArray) (hb:IsTup s.heap b ws.toArray) (hv:vs≠[])
  (h1:ws=[]->Q (.ref t) s) (h2:ws≠[]->Q (.ref s.heap.objs.size) { s with heap:=s.heap.push { cls:=.type "tuple",data:=.seq (vs++ws).toArray } })
  (hsz:vs.length+ws.length<=sizeLine):wpAny (model prog w) A (binaryOp .Add (.ref t) (.ref b)) Q E s:=by
 obtain ⟨⟨cls,dd,data,sl⟩,ho,hc,n,hd⟩:=id ht
 obtain ⟨⟨cls2,dd2,data2,sl2⟩,ho2,hc2,n2,hd2⟩:=id hb
 simp only at hc hd hc2 hd2
 subst hc hd hc2 hd2
 have e:vs.toArray++ws.toArray=(vs++ws).toArray:=by simp
 by_cases hw:ws=[]
 ·exact concat_meets ⟨_,ho,rfl⟩ ⟨_,ho2,rfl⟩ noFill_tuple_add seq_tuple_add PySem.F.slot_tuple_add PySem.F.entry_tuple_add (PySem.F.args_tuple_add_2 _ _)
   (tuple_addW1 t b vs.toArray ws.toArray n n2 dd dd2 sl sl2 (by simpa using hv) (by simp [hw])) ⟨ho,ho2,h1 hw⟩
 ·refine concat_meets ⟨_,ho,rfl⟩ ⟨_,ho2,rfl⟩ noFill_tuple_add seq_tuple_add PySem.F.slot_tuple_add PySem.F.entry_tuple_add (PySem.F.args_tuple_add_2 _ _)
   (tuple_addW2 t b vs.toArray ws.toArray n n2 dd dd2 sl sl2 (by simpa using hv) (by simpa using hw) (by rw [size_toArray,size_toArray];exact hsz)) ⟨ho,ho2,?_⟩
  rw [e]
  exact h2 hw
noncomputable def sIx (n d:Nat):Option Int->Nat
 | none=>d
 | some v=>if v < 0 then (v+(n:Int)).toNat else min v.toNat n
theorem Zdk (n d k:Nat):sIx n d (some (k:Int))=min k n:=by
 show (if (k:Int) < 0 then ((k:Int)+(n:Int)).toNat else min (k:Int).toNat n)=min k n
 rw [if_neg (by lia),Int.toNat_natCast]
end
end HT
namespace L2
open PySem PySem.Spec PyProof.Rows
noncomputable abbrev TO:=St->Hp->(Option Int->Hp->Prop)->Prop
noncomputable def PO (X:Cx) (e:Option Expr) (t:TO):Prop :=
 ∀ (pins:List (Addr×Obj)) (s:Shared) (σ:St) (H:Hp) (Q:Option Int->Hp->Prop),Inv X pins σ H s->t σ H Q ->
  wpAny (model X.prog X.w) X.A (evalPart e X.env) (fun u s'=>∃ o H',Inv X pins σ H' s'/\IsPart u o/\Q o H') X.xe s
noncomputable def Zez:TO:=fun _ H Q=>Q none H
noncomputable def ZiP (t:TE):TO:=fun σ H Q=>t σ H fun x H1=>∃ i,x=.int i/\Q (some i) H1
section
variable {X:Cx} {e:Expr} {te:TE} {lo hi:Option Expr} {tl th:TO} {pos p2:Pos}
theorem ZaG:PO X none Zez:=by
 intro pins s σ H Q I h
 rw [evalPart_none]
 exact wpAny_pure ⟨none,H,I,.none,h⟩
theorem ZaB (h:PE X e te):PO X (some e) (ZiP te):=by
 intro pins s σ H Q I hw
 rw [evalPart_some]
 refine thn (h pins s σ H _ I hw) fun u s1 ⟨x,H1,I1,r1,q1⟩=>?_
 obtain ⟨i,rfl,q⟩:=q1
 obtain ⟨t,rfl⟩:=r1
 exact ⟨some i,H1,I1,.int i t,q⟩
noncomputable def SlR (X:Cx) (r:V->Option Int->Option Int->Hp->VK->Prop):Prop :=
 ∀ (pins:List (Addr×Obj)) (s:Shared) (σ:St) (H:Hp) (x:V) (v vl vu:Value) (lo hi:Option Int) (sl:Addr) (Q:VK),Inv X pins σ H s->RelV x v->s.heap.IsSliceOf sl vl vu .none->IsPart vl lo->IsPart vu hi->r x lo hi H Q ->
  ∃ T id,typeLookup (.type T) "__getitem__"=pure (some (.builtin id))/\s.TypeIs v T/\wpAny (model X.prog X.w) X.A (getItem v (.ref sl)) (EP X pins σ Q) X.xe s
noncomputable def tSl (r:V->Option Int->Option Int->Hp->VK->Prop) (te:TE) (tl th:TO):TE:=fun σ H Q=>te σ H fun x H1=>tl σ H1 fun l H2=>th σ H2 fun u H3=>r x l u H3 Q
theorem Zau {r:V->Option Int->Option Int->Hp->VK->Prop} (hr:SlR X r) (he:PE X e te) (hl:PO X lo tl) (hu:PO X hi th):PE X (.Subscript e (.Slice lo hi none p2) pos) (tSl r te tl th):=by
 intro pins s σ H Q I h
 refine Subscript_ (thn (he pins s σ H _ I h) fun v s1 ⟨x,H1,I1,r1,q1⟩=>?_)
 refine wpAny_Slice (thn (hl pins s1 σ H1 _ I1 q1) fun vl s2 ⟨l,H2,I2,pl,q2⟩=>thn (hu pins s2 σ H2 _ I2 q2) fun vu s3 ⟨u,H3,I3,pu,q3⟩=>?_)
 rw [evalPart_none]
 refine wpAny_pure ?_
 have I4:Inv X pins σ H3 { s3 with heap:=s3.heap.push { cls:=.type "slice",data:=.fields #[vl,vu,.none] } }:=I3.kept (t':=s3.toks) fun b ob q=>Heap.get?_push_of_some _ q
 obtain ⟨T,id,hT,ht,hg⟩:=hr pins { s3 with heap:=s3.heap.push { cls:=.type "slice",data:=.fields #[vl,vu,.none] } } σ H3 x v vl vu l u s3.heap.objs.size Q I4 r1 (Heap.IsSliceOf.new ..) pl pu q3
 show wpAny (model X.prog X.w) X.A (subscriptTail e (.Slice lo hi none p2) v (.ref s3.heap.objs.size)) (EP X pins σ Q) X.xe { s3 with heap:=s3.heap.push { cls:=.type "slice",data:=.fields #[vl,vu,.none] } }
 exact tail_any (ops:=[.ref s3.heap.objs.size,v]) ht hT hg (by with_unfolding_all rfl)
noncomputable def cutV (xs:List V) (lo hi:Option Int):List V:=(xs.drop (HT.sIx xs.length 0 lo)).take (HT.sIx xs.length xs.length hi - HT.sIx xs.length 0 lo)
theorem ZhW (xs:List V) (lo hi:Option Int):(cutV xs lo hi).length<=xs.length:=by
 unfold cutV
 rw [length_take,length_drop]
 lia
noncomputable def rCatT (K:PySem.W.Frag):R2:=fun x y H Q=>∃ a b xs ys,x=.ref a/\y=.ref b/\SqT K H a xs/\SqT K H b ys/\xs≠[]/\xs.length+ys.length<=sizeLine /\
 (ys=[]->Q (.ref a) H)/\(ys≠[]->∀ p,H p=none->Q (.ref p) (upd H p (.tup (xs++ys))))
theorem Vals.nil_iff {xs:List V} {us:List Value} (r:Vals xs us):us=[]↔xs=[]:=by
 cases r with
 | nil=>simp
 | cons _ _=>simp
theorem ZnV:OpR X (binaryOp .Add) (rCatT X.K):=by
 intro pins s σ H x y v u Q I rx ry h
 obtain ⟨a,b,xs,ys,rfl,rfl,ha,hb,hx,hz,q1,q2⟩:=h
 cases rx
 cases ry
 obtain ⟨its,r1,p1,_⟩:=I.tuple ha
 obtain ⟨its2,r2,p2,_⟩:=I.tuple hb
 refine HT.cat_tup p1 p2 (fun z=>hx (r1.nil_iff.mp z)) (fun z=>⟨.ref a,H,I,rfl,q1 (r2.nil_iff.mp z)⟩) (fun z=>?_) (by rw [<-r1.length,<- r2.length];exact hz)
 refine ⟨.ref s.heap.objs.size,_,I.laid (t':=s.toks) (o:=.tup (xs++ys)) (fun b ob q=>Heap.get?_push_of_some _ q) (Nat.le_refl _) ?_,rfl,q2 (fun w=>z (r2.nil_iff.mpr w)) _ (I.hok.fresh (Nat.le_refl _))⟩
 exact ⟨by rw [length_append];exact hz,_,r1.append r2,IsTup.new _ _⟩
end
end L2
namespace L2
open PySem PySem.Spec PyProof.Rows
noncomputable def ixN (n:Nat) (i:Int):Option Nat:=if 0<=i then (if i < n then some i.toNat else none) else if -(n:Int)<=i then some (i+n).toNat else none
noncomputable def atI {α:Type} (xs:List α) (i:Int):Option α:=(ixN xs.length i).bind fun j=>xs[j]?
theorem ZkA {n:Nat} {i:Int} {j:Nat} (h:ixN n i=some j):seqIndex? i n=some j/\j < n/\-(n:Int)<=i/\i < n:=by
 unfold ixN at h
 by_cases h0:0<=i
 ·rw [if_pos h0] at h
  by_cases h1:i < n
  ·rw [if_pos h1] at h
   have e:i.toNat=j:=Option.some.inj h
   exact ⟨by rw [seqIndex_of h0 h1,e],by lia,by lia,h1⟩
  ·rw [if_neg h1] at h;cases h
 ·rw [if_neg h0] at h
  by_cases h1:-(n:Int)<=i
  ·rw [if_pos h1] at h
   have e:(i+n).toNat=j:=Option.some.inj h
   exact ⟨by rw [seqIndex_neg (by lia) h1,e],by lia,h1,by lia⟩
  ·rw [if_neg h1] at h;cases h
theorem Zh4 {α : Type} {xs : List α} {i : Int} {v : α} (h : atI xs i = some v) : ∃ j, seqIndex? i xs.length = some j /\ xs[j]? = some v /\ j < xs.length /\ -(xs.length : Int) <= i /\ i < xs.length := by
  unfold atI at h
  cases e : ixN xs.length i with
  | none => rw [e] at h; cases h
  | some j =>
    rw [e] at h
    obtain ⟨h1, h2, h3, h4⟩ := ZkA e
    exact ⟨j, h1, h, h2, h3, h4⟩
theorem Zml {α:Type} (xs:List α) (v:α):atI (xs++[v]) (-1)=some v:=by
 have hl:(xs++[v]).length=xs.length+1:=by simp
 have e:ixN (xs++[v]).length (-1)=some xs.length:=by
  unfold ixN
  rw [hl,if_neg (by decide),if_pos (by lia)]
  congr 1
  lia
 unfold atI
 rw [e]
 show (xs++[v])[xs.length]?=some v
 simp
noncomputable def Zop (b:Expr):Prop:=∀ o i,subscripted b false o i=operate [o,i] (getItem o i)
noncomputable def IxR (X:Cx) (r:R2):Prop :=
 ∀ (value slice:Expr) (pins:List (Addr×Obj)) (s:Shared) (σ:St) (H:Hp) (x y:V) (v u:Value) (Q:VK),Inv X pins σ H s->RelV x v->RelV y u->r x y H Q ->
  subscripted slice false v u=operate [v,u] (getItem v u)->wpAny (model X.prog X.w) X.A (subscriptTail value slice v u) (EP X pins σ Q) X.xe s
noncomputable def MtR (X:Cx) (id:String) (r:V->List V->Hp->VK->Prop):Prop :=
 ∀ (pins:List (Addr×Obj)) (s:Shared) (σ:St) (H:Hp) (x:V) (xs:List V) (v:Value) (us:List Value) (Q:VK),Inv X pins σ H s->RelV x v->Vals xs us->r x xs H Q ->
  wpAny (model X.prog X.w) X.A (call (.builtin id) (v::us)) (EP X pins σ Q) X.xe s
section
variable {X:Cx} {a b:Expr} {ta tb:TE} {pos:Pos}
theorem IxR.or {r r':R2} (h:IxR X r) (h':IxR X r'):IxR X (fun x y H Q=>r x y H Q\/r' x y H Q):=by
 intro value slice pins s σ H x y v u Q I rx ry q hs
 rcases q with q|q
 ·exact h value slice pins s σ H x y v u Q I rx ry q hs
 ·exact h' value slice pins s σ H x y v u Q I rx ry q hs
theorem Zao {r:R2} (hr:IxR X r) (ha:PE X a ta) (hb:PE X b tb) (hs:Zop b):PE X (.Subscript a b pos) (tOp r ta tb):=by
 intro pins s σ H Q I h
 exact Subscript_ (binT ha hb I h fun v u s2 x y H2 I2 rx ry q=>hr a b pins s2 σ H2 x y v u Q I2 rx ry q (hs _ _))
noncomputable def rIxL (K:PySem.W.Frag):R2:=fun x y H Q=>∃ p xs i v,x=.ref p/\y=.int i/\SqL K H p xs/\atI xs i=some v/\Q v H
noncomputable def rIxT (K:PySem.W.Frag):R2:=fun x y H Q=>∃ p xs i v,x=.ref p/\y=.int i/\SqT K H p xs/\atI xs i=some v/\Q v H
noncomputable def rIxS:R2:=fun x y H Q=>∃ z i c,x=.str z/\y=.int i/\z.length<=sizeLine/\atI z.cps.toList i=some c/\Q (.str ⟨#[c]⟩) H
theorem ix_list:IxR X (rIxL X.K):=by
 intro value slice pins s σ H x y v u Q I rx ry h hs
 obtain ⟨p,xs,i,z,rfl,rfl,hq,he,q⟩:=h
 cases rx
 obtain ⟨t,rfl⟩:=ry
 obtain ⟨its,r,pl,hz⟩:=I.list hq
 obtain ⟨j,h1,h2,h3,h4,h5⟩:=Zh4 he
 obtain ⟨w,ew,rw'⟩:=r.get h2
 have hl:=r.length
 have hn:=Zha
 have fin:EP X pins σ Q w s:=⟨z,H,I,rw',q⟩
 by_cases h0:0<=i
 ·have hj:i.toNat=j:=by
   rw [seqIndex_of h0 h5] at h1
   exact Option.some.inj h1
  exact item_listR pl.isList h0 (by lia) (by rw [hj];simpa using ew) fin hs
 ·have hj:(i+(its.toArray.size:Int)).toNat=j:=by
   rw [seqIndex_neg (by lia) h4] at h1
   rw [size_toArray,<- hl]
   exact Option.some.inj h1
  exact subscriptTail_builtinR (x:=w) pl.isList.typeIs slot_list_getitem.lookup
   (wpAny_getItem_list_neg (Q:=fun r s'=>r=w/\EP X pins σ Q r s') pl.isList (by lia) (by rw [size_toArray] <;> lia) (by lia) (by rw [hj];simpa using ew) ⟨rfl,fin⟩) hs
theorem ix_tup:IxR X (rIxT X.K):=by
 intro value slice pins s σ H x y v u Q I rx ry h hs
 obtain ⟨p,xs,i,z,rfl,rfl,hq,he,q⟩:=h
 cases rx
 obtain ⟨t,rfl⟩:=ry
 obtain ⟨its,r,pl,hz⟩:=I.tuple hq
 obtain ⟨j,h1,h2,h3,h4,h5⟩:=Zh4 he
 obtain ⟨w,ew,rw'⟩:=r.get h2
 have hl:=r.length
 have hn:=Zha
 have fin:EP X pins σ Q w s:=⟨z,H,I,rw',q⟩
 exact subscriptTail_builtinR (x:=w) pl.typeIs slot_tuple_getitem.lookup
  (getItem_tuple (j:=j) (Q:=fun r s'=>r=w/\EP X pins σ Q r s') pl (by lia) (by lia) (by rw [size_toArray,<- hl];exact h1) (by simpa using ew) ⟨rfl,fin⟩) hs
theorem Zhd:IxR X rIxS:=by
 intro value slice pins s σ H x y v u Q I rx ry h hs
 obtain ⟨z,i,c,rfl,rfl,hz,he,q⟩:=h
 obtain ⟨t,rfl⟩:=rx
 obtain ⟨t',rfl⟩:=ry
 obtain ⟨j,h1,h2,h3,h4,h5⟩:=Zh4 he
 have hl:z.cps.toList.length=z.length:=by simp [Str.length]
 rw [hl] at h1 h4 h5
 have hn:=Zha
 exact tail_any (typeIs_str s z t) slot_str_getitem.lookup (getItem_str (c:=c) (by
  have e1:decide (i < -(2 ^ 63:Int))=false:=decide_eq_false (by lia)
  have e2:decide (i ≥ 2 ^ 63)=false:=decide_eq_false (by lia)
  rw [e1,e2,Bool.or_false]) (by rw [h1];simpa using h2) ⟨.str ⟨#[c]⟩,H,I.tok _,⟨_,rfl⟩,q⟩) hs
theorem ZiU (its:List Value) (n j:Nat) (u:Value):Obj.mapSeq (·.setIfInBounds j u) { cls:=.type "list",data:=.seq its.toArray n }={ cls:=.type "list",data:=.seq (its.set j u).toArray n }:=by
 simp [Obj.mapSeq]
theorem Inv.lst {pins:List (Addr×Obj)} {σ:St} {H:Hp} {s:Shared} {p:Addr} {xs:List V} (I:Inv X pins σ H s) (h:H p=some (.lst xs)) :
  ∃ (its:List Value) (n:Nat),Vals xs its/\s.heap.get? p=some { cls:=.type "list",data:=.seq its.toArray n }/\xs.length<=sizeLine:=by
 obtain ⟨z,its,n,r,e⟩:=I.hok p _ h
 exact ⟨its,n,r,e,z⟩
theorem Inv.lstUpd {pins:List (Addr×Obj)} {σ:St} {H:Hp} {s:Shared} {p:Addr} {xs ys:List V} {its its':List Value} {n n':Nat} {f:Obj->Obj} (I:Inv X pins σ H s) (h:H p=some (.lst xs))
  (ho:s.heap.get? p=some { cls:=.type "list",data:=.seq its.toArray n }) (hf:f { cls:=.type "list",data:=.seq its.toArray n }={ cls:=.type "list",data:=.seq its'.toArray n' }) (r:Vals ys its') (hz:ys.length<=sizeLine) (t:Nat) :
  Inv X pins σ (upd H p (.lst ys)) { s with heap:=s.heap.update p f,toks:=t }:=by
 have e:(s.heap.update p f).get? p=some { cls:=.type "list",data:=.seq its'.toArray n' }:=by
  rw [Heap.get?_update_self f ho (by rw [hf] <;> rfl),hf]
 refine I.write (x:=p) (e:=p) (by rw [h];trivial) (.inl rfl) (fun b u hb q=>(Heap.get?_update_other _ _ (Ne.symm hb)).trans q) ⟨_,e⟩ ?_
 exact ⟨hz,its',n',r,e⟩
noncomputable def ZjV:V->V->V->Hp->(Hp->Prop)->Prop:=fun o i v H Q=>∃ p xs k j,o=.ref p/\i=.int k/\H p=some (.lst xs)/\ixN xs.length k=some j/\Q (upd H p (.lst (xs.set j v)))
theorem ZbG:PSet X ZjV:=by
 intro pins s σ H o i v ov iv u Q I ro ri rv h
 obtain ⟨p,xs,k,j,rfl,rfl,hp,hj,q⟩:=h
 cases ro
 obtain ⟨t,rfl⟩:=ri
 obtain ⟨its,n,r,ho,hz⟩:=I.lst hp
 obtain ⟨h1,h2,h3,h4⟩:=ZkA hj
 have hl:=r.length
 have hn:=Zha
 have I':Inv X pins σ (upd H p (.lst (xs.set j v))) { s with heap:=s.heap.update p (Obj.mapSeq (·.setIfInBounds j u)) } :=
  I.lstUpd hp ho (ZiU its n j u) (r.set rv j) (by rw [length_set];exact hz) s.toks
 by_cases h0:0<=k
 ·have hk:k.toNat=j:=by
   rw [seqIndex_of h0 h4] at h1
   exact Option.some.inj h1
  exact PySem.W.ki_setAt ho h0 (by lia) (by rw [size_toArray,<- hl];exact h4) (by rw [hk];exact ⟨_,I',q⟩)
 ·have hk:(k+(its.toArray.size:Int)).toNat=j:=by
   rw [seqIndex_neg (by lia) h3] at h1
   rw [size_toArray,<- hl]
   exact Option.some.inj h1
  exact PySem.W.ki_setBack ho (by lia) (by rw [size_toArray,<- hl];exact h3) (by lia) (by rw [hk];exact ⟨_,I',q⟩)
theorem Zg2 (lo hi : Option Int) (n : Nat) : (sliceBounds lo hi none n).1 = ((HT.sIx n 0 lo : Nat) : Int) /\ (sliceBounds lo hi none n).2.1 = ((HT.sIx n n hi : Nat) : Int) /\ (sliceBounds lo hi none n).2.2 = 1 := by
  refine ⟨?_, ?_, rfl⟩
  · cases lo with
    | none => simp [sliceBounds, HT.sIx]
    | some i =>
      simp only [sliceBounds, HT.sIx, Option.getD_none, show (1 : Int) > 0 by decide, if_true]
      by_cases h : i < 0
      · simp only [h, if_true] <;> lia
      · simp only [h, if_false] <;> lia
  · cases hi with
    | none => simp [sliceBounds, HT.sIx]
    | some i =>
      simp only [sliceBounds, HT.sIx, Option.getD_none, show (1 : Int) > 0 by decide, if_true]
      by_cases h : i < 0
      · simp only [h, if_true] <;> lia
      · simp only [h, if_false] <;> lia
theorem Zgm (its:List Value) (lo hi:Option Int):slicePick its.toArray lo hi none=((its.drop (HT.sIx its.length 0 lo)).take (HT.sIx its.length its.length hi - HT.sIx its.length 0 lo)).toArray:=by
 obtain ⟨h1,h2,h3⟩:=Zg2 lo hi its.toArray.size
 unfold slicePick
 rw [h1,h2,h3]
 simp only [sliceRange_one,pick_run,size_toArray] <;> rfl
noncomputable def rSlL (K:PySem.W.Frag):V->Option Int->Option Int->Hp->VK->Prop:=fun x lo hi H Q=>∃ a xs,x=.ref a/\SqL K H a xs/\∀ p,H p=none->Q (.ref p) (upd H p (.lst (cutV xs lo hi)))
theorem Zm8:SlR X (rSlL X.K):=by
 intro pins s σ H x v vl vu lo hi sl Q I rx hs pl pu h
 obtain ⟨a,xs,rfl,hx,q⟩:=h
 cases rx
 obtain ⟨its,r,ht,hz⟩:=I.list hx
 have hlen:=r.length
 refine ⟨"list",_,slot_list_getitem.lookup,ht.isList.typeIs,?_⟩
 refine wpAny_getItem_list_slice ht.isList hs pl pu .none (by simp) ?_ (by rw [size_toArray] <;> lia)
 rw [Zgm,<- hlen]
 refine ⟨.ref s.heap.objs.size,_,I.laid (t':=s.toks) (o:=.lst (cutV xs lo hi)) (fun b ob q=>Heap.get?_push_of_some _ q) (Nat.le_refl _) ?_,rfl,q _ (I.hok.fresh (Nat.le_refl _))⟩
 exact ⟨Nat.le_trans (ZhW xs lo hi) hz,_,0,(r.drop (HT.sIx xs.length 0 lo)).take (HT.sIx xs.length xs.length hi - HT.sIx xs.length 0 lo),Heap.get?_push_size _ rfl⟩
noncomputable def ZfF:V->Bool
 | .non=>true
 | .bl _=>true
 | .int _=>true
 | .str _=>true
 | _=>false
noncomputable def eqV:V->V->Bool
 | .non,.non=>true
 | .bl a,.bl b=>a == b
 | .bl a,.int b=>(if a then 1 else 0) == b
 | .int a,.bl b=>a == (if b then 1 else 0)
 | .int a,.int b=>a == b
 | .str a,.str b=>a == b
 | _,_=>false
theorem eqAt_V {A : Around} {s : Shared} {y x : V} {u v : Value} (ry : RelV y u) (rx : RelV x v) (fy : ZfF y = true) (fx : ZfF x = true) : SeqAt.EqAt A s u v (eqV y x) := by
  cases y with
  | non =>
    cases ry
    cases x with
    | non => cases rx; exact SeqAt.EqAt.same _
    | bl b => cases rx; exact SeqAt.EqAt.none_bool b
    | int b => obtain ⟨t, rfl⟩ := rx; exact SeqAt.EqAt.none_int b t
    | str b => obtain ⟨t, rfl⟩ := rx; exact SeqAt.EqAt.none_str b t
    | _ => exact absurd (show false = true from fx) Bool.false_ne_true
  | bl a =>
    cases ry
    cases x with
    | non => cases rx; exact SeqAt.EqAt.bool_none a
    | bl b => cases rx; exact SeqAt.EqAt.bool_bool a b
    | int b => obtain ⟨t, rfl⟩ := rx; exact SeqAt.EqAt.bool_int a b t
    | str b => obtain ⟨t, rfl⟩ := rx; exact SeqAt.EqAt.bool_str a b t
    | _ => exact absurd (show false = true from fx) Bool.false_ne_true
  | int a =>
    obtain ⟨t', rfl⟩ := ry
    cases x with
    | non => cases rx; exact SeqAt.EqAt.int_none a t'
    | bl b => cases rx; exact SeqAt.EqAt.int_bool a t' b
    | int b => obtain ⟨t, rfl⟩ := rx; exact SeqAt.EqAt.int_int a t' b t
    | str b => obtain ⟨t, rfl⟩ := rx; exact SeqAt.EqAt.int_str a t' b t
    | _ => exact absurd (show false = true from fx) Bool.false_ne_true
  | str a =>
    obtain ⟨t', rfl⟩ := ry
    cases x with
    | non => cases rx; exact SeqAt.EqAt.str_none a t'
    | bl b => cases rx; exact SeqAt.EqAt.str_bool a t' b
    | int b => obtain ⟨t, rfl⟩ := rx; exact SeqAt.EqAt.str_int a t' b t
    | str b => obtain ⟨t, rfl⟩ := rx; exact SeqAt.EqAt.str_str a t' b t
    | _ => exact absurd (show false = true from fx) Bool.false_ne_true
  | _ => exact absurd (show false = true from fy) Bool.false_ne_true
noncomputable def eqU (x:V) (u:Value):Bool:=match u with
 | .none=>eqV .non x
 | .bool b=>eqV (.bl b) x
 | .int i _=>eqV (.int i) x
 | .str z _=>eqV (.str z) x
 | _=>false
theorem ZmR {x y:V} {u:Value} (r:RelV y u) (f:ZfF y=true):eqU x u=eqV y x:=by
 cases y with
 | non=>cases r;rfl
 | bl b=>cases r;rfl
 | int i=>obtain ⟨t,rfl⟩:=r;rfl
 | str z=>obtain ⟨t,rfl⟩:=r;rfl
 | _=>exact absurd (show false=true from f) Bool.false_ne_true
theorem ZfJ {x : V} : ∀ {xs : List V} {us : List Value}, Vals xs us -> xs.all ZfF = true -> us.any (eqU x) = xs.any fun y => eqV y x
  | _, _, .nil, _ => rfl
  | y :: xs, u :: us, .cons r t, f => by
    rw [all_cons, Bool.and_eq_true] at f
    rw [any_cons, any_cons, ZmR r f.1, ZfJ t f.2]
theorem Zel {A : Around} {s : Shared} {x : V} {v : Value} (rx : RelV x v) (fx : ZfF x = true) : ∀ {xs : List V} {us : List Value}, Vals xs us -> xs.all ZfF = true -> ∀ u ∈ us, SeqAt.EqAt A s u v (eqU x u)
  | _, _, .nil, _ => fun u hu => by cases hu
  | y :: xs, u :: us, .cons r t, f => fun u' hu => by
    rw [all_cons, Bool.and_eq_true] at f
    rcases mem_cons.mp hu with rfl | hu
    · rw [ZmR r f.1]; exact eqAt_V r rx f.1 fx
    · exact Zel rx fx t f.2 u' hu
noncomputable def inV (x:V) (xs:List V):Bool:=xs.any fun y=>eqV y x
noncomputable def rIn (K:PySem.W.Frag) (neg:Bool):R2:=fun x y H Q=>∃ p xs,y=.ref p/\(SqL K H p xs\/SqT K H p xs)/\ZfF x=true/\xs.all ZfF=true/\Q (.bl (if neg then !inV x xs else inV x xs)) H
theorem Zkc:OpR X (compareOp .In) (rIn X.K false):=by
 intro pins s σ H x y v u Q I rx ry h
 obtain ⟨p,xs,rfl,hq,fx,fs,q⟩:=h
 cases ry
 rcases hq with hq|hq
 ·obtain ⟨its,r,pl,hz⟩:=I.list hq
  refine SeqAt.in_listAt (eqU x) pl.isList (fun w hw=>Zel rx fx r fs w (by simpa using hw)) ⟨.bl _,H,I,rfl,?_⟩
  rw [show its.toArray.any (eqU x)=its.any (eqU x) by simp,ZfJ r fs]
  exact q
 ·obtain ⟨its,r,pl,hz⟩:=I.tuple hq
  refine SeqAt.in_tupleAt (eqU x) pl (fun w hw=>Zel rx fx r fs w (by simpa using hw)) ⟨.bl _,H,I,rfl,?_⟩
  rw [show its.toArray.any (eqU x)=its.any (eqU x) by simp,ZfJ r fs]
  exact q
theorem Zg5:OpR X (compareOp .NotIn) (rIn X.K true):=by
 intro pins s σ H x y v u Q I rx ry h
 obtain ⟨p,xs,rfl,hq,fx,fs,q⟩:=h
 cases ry
 rcases hq with hq|hq
 ·obtain ⟨its,r,pl,hz⟩:=I.list hq
  refine SeqAt.notIn_listAt (eqU x) pl.isList (fun w hw=>Zel rx fx r fs w (by simpa using hw)) ⟨.bl _,H,I,rfl,?_⟩
  rw [show its.toArray.any (eqU x)=its.any (eqU x) by simp,ZfJ r fs]
  exact q
 ·obtain ⟨its,r,pl,hz⟩:=I.tuple hq
  refine SeqAt.notIn_tupleAt (eqU x) pl (fun w hw=>Zel rx fx r fs w (by simpa using hw)) ⟨.bl _,H,I,rfl,?_⟩
  rw [show its.toArray.any (eqU x)=its.any (eqU x) by simp,ZfJ r fs]
  exact q
theorem ZgM:Zc9 X (.type "tuple") (fun xs H Q=>∃ p ys,xs=[.ref p]/\((SqL X.K H p ys/\∀ l,H l=none->Q (.ref l) (upd H l (.tup ys)))\/(SqT X.K H p ys/\Q (.ref p) H))):=by
 intro pins s σ H xs us Q I r h
 obtain ⟨p,ys,rfl,h⟩:=h
 obtain ⟨u,rfl,rx⟩:=ZgV r
 cases rx
 rcases h with ⟨hq,q⟩|⟨hq,q⟩
 ·obtain ⟨its,r',pl,hz⟩:=I.list hq
  have hlen:=r'.length
  refine call_tuple_list pl.isList (fun h' kp=>?_) (by simp only [size_toArray] <;> lia)
  have I1:Inv X pins σ H { s with heap:=h' }:=I.kept (t':=s.toks) kp
  have I2:Inv X pins σ (upd H h'.objs.size (.tup ys)) { s with heap:=h'.push { cls:=.type "tuple",data:=.seq its.toArray } } :=
   I1.laid (t':=s.toks) (fun b o e=>Heap.get?_push_of_some _ e) (Nat.le_refl _) (show ObjOk X.prog X.w _ _ _ (.tup ys) from ⟨hz,its,r',IsTup.new _ _⟩)
  exact ⟨.ref h'.objs.size,_,I2,rfl,q _ (I1.hok.fresh (Nat.le_refl _))⟩
 ·obtain ⟨its,r',pl,hz⟩:=I.tuple hq
  exact call_tuple_same pl ⟨.ref p,H,I,rfl,q⟩
noncomputable def tyV (K:PySem.W.Frag) (T:String) (x:V) (H:Hp):Prop:=match x with
 | .str _=>T="str"
 | .int _=>T="int"
 | .ref p=>(T="list"/\∃ xs,SqL K H p xs)\/(T="tuple"/\∃ o,K.lookup p=some o/\o.cls=.type "tuple"/\o.dict=none) \/
   (T="dict"/\((∃ kvs,H p=some (.dK kvs))\/∃ kvs,H p=some (.dT kvs)))\/(T="set"/\∃ S n,H p=some (.set S n))
 | _=>False
theorem Zjf {pins : List (Addr × Obj)} {σ : St} {H : Hp} {s : Shared} {T : String} {x : V} {v : Value} (I : Inv X pins σ H s) (r : RelV x v) (ty : tyV X.K T x H) :
    s.TypeIs v T /\ ∀ a, v = .ref a -> ∃ ob, s.heap.get? a = some ob /\ ob.dict = none := by
  cases x with
  | str z =>
    obtain ⟨t, rfl⟩ := r
    cases (show T = "str" from ty)
    exact ⟨typeIs_str s z t, fun _ e => nomatch e⟩
  | int i =>
    obtain ⟨t, rfl⟩ := r
    cases (show T = "int" from ty)
    exact ⟨typeIs_int s i t, fun _ e => nomatch e⟩
  | ref p =>
    cases r
    rcases ty with ⟨rfl, xs, hq⟩ | ⟨rfl, o, hk, hc, hd⟩ | ⟨rfl, hk⟩ | ⟨rfl, S, n, hk⟩
    · obtain ⟨its, _, pl, _⟩ := I.list hq
      refine ⟨pl.isList.typeIs, fun a e => ?_⟩
      cases e
      obtain ⟨o, n, e, c, hd, _⟩ := pl
      exact ⟨o, e, hd⟩
    · refine ⟨⟨o, I.kIn p o hk, hc⟩, fun a e => ?_⟩
      cases e
      exact ⟨o, I.kIn _ o hk, hd⟩
    · have z : ∃ o, s.heap.get? p = some o /\ o.ExactDict := by
        rcases hk with ⟨kvs, hk⟩ | ⟨kvs, hk⟩
        · obtain ⟨_, _, _, _, o, _, _, e, ex, _⟩ := I.hok p _ hk
          exact ⟨o, e, ex⟩
        · obtain ⟨_, _, _, _, o, _, _, e, ex, _⟩ := I.hok p _ hk
          exact ⟨o, e, ex⟩
      obtain ⟨o, e, ex⟩ := z
      refine ⟨⟨o, e, ex.1⟩, fun a e2 => ?_⟩
      cases e2
      exact ⟨o, e, ex.2.1⟩
    · obtain ⟨o, _, _, _, e, ex, _⟩ := I.hok p _ hk
      refine ⟨⟨o, e, ex.1⟩, fun a e2 => ?_⟩
      cases e2
      exact ⟨o, e, ex.2.1⟩
  | _ => exact False.elim ty
noncomputable def tBM0 (K:PySem.W.Frag) (T:String) (r:V->List V->Hp->VK->Prop) (to:TE):TE:=fun σ H Q=>to σ H fun x H1=>tyV K T x H1/\r x [] H1 Q
noncomputable def tBM (K:PySem.W.Frag) (T:String) (r:V->List V->Hp->VK->Prop) (to:TE) (t:TA):TE:=fun σ H Q=>to σ H fun x H1=>tyV K T x H1/\t σ H1 fun xs H2=>r x xs H2 Q
variable {o e:Expr} {es:List Expr} {to:TE} {t:TA} {name:Str} {apos cpos:Pos} {T id:String} {r:V->List V->Hp->VK->Prop}
theorem pe_bm0 (pa:PlainAttrs T) (slot:Slot T name id) (hty:typeOf (.builtin id)=pure (.type "method_descriptor")) (hm:MtR X id r) (ho:PE X o to)
  (hbase:attributeBase o name X.env (eval o X.env)=eval o X.env:=by rfl) (hline:(apos.endLine == cpos.line)=true:=by rfl):PE X (.Call (.Attribute o name apos) [] [] cpos) (tBM0 X.K T r to):=by
 intro pins s σ H Q I h
 refine wpAny_Call_method0_late hbase hline (thn (ho pins s σ H _ I h) fun v s1 ⟨x,H1,I1,r1,ty,q1⟩=>?_)
 obtain ⟨h1,h2⟩:=Zjf I1 r1 ty
 exact ⟨T,id,pa,slot,hty,h1,h2,Calls.callWith_builtin rfl (PySem.evalArgs_none (hm pins s1 σ H1 x [] v [] Q I1 r1 .nil q1))⟩
theorem pe_bm (pa:PlainAttrs T) (slot:Slot T name id) (hty:typeOf (.builtin id)=pure (.type "method_descriptor")) (hm:MtR X id r) (ho:PE X o to) (ha:PA X (e::es) t)
  (hbase:attributeBase o name X.env (eval o X.env)=eval o X.env:=by rfl)
  (hfew:((backTo cpos (starEach (e::es) X.env)).all (fun x=>!x.1) && (backToKw cpos (keywordEach [] X.env)).all (fun x=>x.1.isSome)
   && decide ((e::es).length+([]:List Keyword).length+(if ([]:List Keyword).isEmpty then 0 else 1) < 30))=true:=by rfl)
  (hline:(apos.endLine == cpos.line)=true:=by rfl) (hs:starEach (e::es) X.env=(false,eval e X.env)::starEach es X.env:=by rfl) (hplain:(backTo cpos (starEach es X.env)).any (·.1)=false:=by rfl) :
  PE X (.Call (.Attribute o name apos) (e::es) [] cpos) (tBM X.K T r to t):=by
 intro pins s σ H Q I h
 refine wpAny_Call_method_late hbase hfew hline rfl (thn (ho pins s σ H _ I h) fun v s1 ⟨x,H1,I1,r1,ty,q1⟩=>?_)
 obtain ⟨h1,h2⟩:=Zjf I1 r1 ty
 refine ⟨T,id,pa,slot,hty,h1,h2,?_⟩
 have hA:=ha cpos pins s1 σ H1 _ I1 q1
 rw [hs] at hA ⊢
 refine Calls.callWith_builtin (by show (false || (backTo cpos (starEach es X.env)).any (·.1))=false;rw [hplain] <;> rfl) (Calls.evalArgs_plain ?_)
 exact thn hA fun us s2 ⟨vs,H2,I2,r2,q2⟩=>hm pins s2 σ H2 x vs v us Q I2 r1 r2 q2
/- xs.append(e),list.index on a module's tuple .. are MtR facts of 06m -/
end
end L2
namespace L2
open PySem PySem.Spec PyProof.Rows
noncomputable def MtM (X:Cx) (id:String) (r:V->List V->Hp->VK->Prop):Prop :=
 ∀ (pins:List (Addr×Obj)) (s:Shared) (σ:St) (H:Hp) (x:V) (xs:List V) (v:Value) (us:List Value) (Q:VK),Inv X pins σ H s->RelV x v->Vals xs us->r x xs H Q ->
  wpAny (model X.prog X.w) X.A (call (.builtin id) (v::us)) (EP X pins σ Q) X.xe s
theorem Vals.consI {x:V} {xs:List V} {us:List Value} (h:Vals (x::xs) us):∃ u ws,us=u::ws/\RelV x u/\Vals xs ws:=by
 cases h with
 | cons r t=>exact ⟨_,_,rfl,r,t⟩
theorem Vals.nilI {us:List Value} (h:Vals [] us):us=[]:=by
 cases h
 rfl
theorem Vals.one {x:V} {us:List Value} (h:Vals [x] us):∃ u,us=[u]/\RelV x u:=by
 obtain ⟨u,ws,rfl,r,t⟩:=h.consI
 exact ⟨u,by rw [t.nilI],r⟩
theorem Vals.two {x y:V} {us:List Value} (h:Vals [x,y] us):∃ u v,us=[u,v]/\RelV x u/\RelV y v:=by
 obtain ⟨u,ws,rfl,r,t⟩:=h.consI
 obtain ⟨v,e,q⟩:=t.one
 exact ⟨u,v,by rw [e],r,q⟩
theorem Vals.rep {xs : List V} {us : List Value} (h : Vals xs us) : ∀ k : Nat, Vals (List.replicate k xs).flatten (List.replicate k us).flatten
  | 0 => .nil
  | k + 1 => by
    rw [replicate_succ, replicate_succ, flatten_cons, flatten_cons]
    exact Vals.append h (Vals.rep h k)
theorem Zhi (its : List Value) : ∀ (k : Nat) (acc : List Value),
    List.foldl (fun x1 x2 => x1 ++ x2) acc.toArray (List.replicate k its.toArray) = (acc ++ (List.replicate k its).flatten).toArray
  | 0, acc => by simp
  | k + 1, acc => by
    have e : acc.toArray ++ its.toArray = (acc ++ its).toArray := by simp
    have e2 : (acc ++ its) ++ (List.replicate k its).flatten = acc ++ (List.replicate (k + 1) its).flatten := by
      rw [replicate_succ, flatten_cons, append_assoc]
    rw [<- e2, <- Zhi its k (acc ++ its), <- e, replicate_succ, foldl_cons]
section
variable {X:Cx} {pins:List (Addr×Obj)} {σ:St} {H:Hp} {s:Shared} {l b:Addr} {xs ys zs:List V}
theorem Inv.lset {its its':List Value} {n:Nat} {f:Array Value->Array Value} {t':Nat} (I:Inv X pins σ H s) (hH:H l=some (.lst xs))
  (e:s.heap.get? l=some { cls:=.type "list",data:=.seq its.toArray n }) (hf:f its.toArray=its'.toArray) (hv:Vals ys its') (hz:ys.length<=sizeLine) :
  Inv X pins σ (upd H l (.lst ys)) { s with heap:=s.heap.update l (Obj.mapSeq f),toks:=t' }:=by
 have q:=PySem.IsL.update e f
 rw [hf] at q
 refine I.write (x:=l) (e:=l) (by rw [hH];exact trivial) (.inl rfl) (fun b' u hb hu=>(Heap.get?_update_other s.heap (Obj.mapSeq f) (Ne.symm hb)).trans hu) ⟨_,q⟩ ?_
 exact ⟨hz,its',_,hv,q⟩
theorem Inv.lnew {its:List Value} {t':Nat} (I:Inv X pins σ H s) (hv:Vals ys its) (hz:ys.length<=sizeLine) :
  Inv X pins σ (upd H s.heap.objs.size (.lst ys)) { s with heap:=s.heap.push { cls:=.type "list",data:=.seq its.toArray },toks:=t' } :=
 I.laid (fun _ _ q=>Heap.get?_push_of_some _ q) (Nat.le_refl _) ⟨hz,its,0,hv,Heap.get?_push_size _ rfl⟩
theorem Inv.fresh (I:Inv X pins σ H s):H s.heap.objs.size=none:=I.hok.fresh (Nat.le_refl _)
theorem Inv.lstM (I:Inv X pins σ H s) (hH:H l=some (.lst xs)):xs.length<=sizeLine/\∃ (its:List Value) (n:Nat),Vals xs its/\xs.length=its.length/\s.heap.get? l=some { cls:=.type "list",data:=.seq its.toArray n }:=by
 obtain ⟨z,its,n,r,e⟩:=I.hok l _ hH
 exact ⟨z,its,n,r,r.length,e⟩
theorem Ziw {n:Nat} (h:n<=sizeLine):Builtin.List.listTooLong n=false:=by
 unfold Builtin.List.listTooLong
 exact decide_eq_false (by lia)
end
section
variable {X:Cx}
noncomputable def ZjX:V->List V->Hp->VK->Prop:=fun x vs H Q=>∃ l xs y,x=.ref l/\vs=[y]/\H l=some (.lst xs)/\xs.length < sizeLine/\Q .non (upd H l (.lst (xs++[y])))
theorem Za3:MtM X "list.append" ZjX:=by
 intro pins s σ H x vs v us Q I rx rv h
 obtain ⟨l,xs,y,rfl,rfl,hH,hz,q⟩:=h
 cases rx
 obtain ⟨u,rfl,ru⟩:=rv.one
 obtain ⟨z,its,n,r,hl,e⟩:=I.lstM hH
 refine call_meets F.slot_list_append ⟨_,e,rfl⟩ F.entry_list_append (F.args_list_append_2 _ _) (PySem.list_append l its.toArray n u (by rw [size_toArray];lia)) ⟨e,?_⟩
 refine ⟨.non,_,I.lset (its':=its++[u]) hH e (by simp) (r.append (.cons ru .nil)) ?_,rfl,q⟩
 rw [length_append,length_singleton]
 lia
noncomputable def ZnD:V->List V->Hp->VK->Prop:=fun x vs H Q=>∃ l b xs zs,x=.ref l/\vs=[.ref b]/\H l=some (.lst xs)/\H b=some (.lst zs)/\xs.length+zs.length<=sizeLine/\Q .non (upd H l (.lst (xs++zs)))
theorem mt_extend:MtM X "list.extend" ZnD:=by
 intro pins s σ H x vs v us Q I rx rv h
 obtain ⟨l,b,xs,zs,rfl,rfl,hH,hB,hz,q⟩:=h
 cases rx
 obtain ⟨u,rfl,ru⟩:=rv.one
 cases ru
 obtain ⟨z,its,n,r,hl,e⟩:=I.lstM hH
 obtain ⟨z2,its2,n2,r2,hl2,e2⟩:=I.lstM hB
 have hsz:its.toArray.size+its2.toArray.size<=sizeLine:=by rw [size_toArray,size_toArray];lia
 have hlong:¬ (!its.toArray.isEmpty && Builtin.List.listTooLong (its.toArray.size+its2.toArray.size))=true:=by
  rw [Ziw hsz,Bool.and_false]
  exact Bool.false_ne_true
 refine call_meets F.slot_list_extend ⟨_,e,rfl⟩ F.entry_list_extend (F.args_list_extend_2 _ _)
  (AutoSeq1.list_extend_list_list_0 l its.toArray n b its2.toArray n2 hlong (by rw [size_toArray];lia) (by lia)) ⟨e,e2,?_⟩
 refine ⟨.non,_,I.lset (its':=its++its2) hH e (by simp) (r.append r2) ?_,rfl,q⟩
 rw [length_append]
 lia
noncomputable def rCat:R2:=fun x y H Q=>∃ l b xs zs,x=.ref l/\y=.ref b/\H l=some (.lst xs)/\H b=some (.lst zs)/\xs.length+zs.length<=sizeLine/\∀ p,H p=none->Q (.ref p) (upd H p (.lst (xs++zs)))
theorem Zcj:OpR X (binaryOp .Add) rCat:=by
 intro pins s σ H x y v u Q I rx ry h
 obtain ⟨l,b,xs,zs,rfl,rfl,hH,hB,hz,q⟩:=h
 cases rx
 cases ry
 obtain ⟨z,its,n,r,hl,e⟩:=I.lstM hH
 obtain ⟨z2,its2,n2,r2,hl2,e2⟩:=I.lstM hB
 refine PySem.P.add_list e e2 ?_ (by rw [size_toArray,size_toArray];lia)
 have ea:its.toArray++its2.toArray=(its++its2).toArray:=by simp
 rw [ea]
 exact ⟨.ref _,_,I.lnew (t':=s.toks) (r.append r2) (by rw [length_append];lia),rfl,q _ I.fresh⟩
noncomputable def rRep:R2:=fun x y H Q=>∃ l k xs,x=.ref l/\y=.int k/\H l=some (.lst xs)/\-(2 ^ 63)<=k/\k < 2 ^ 63/\xs.length * k.toNat<=sizeLine /\
 ∀ p,H p=none->Q (.ref p) (upd H p (.lst (List.replicate k.toNat xs).flatten))
theorem ZnZ {α:Type} (xs:List α) (k:Nat):(List.replicate k xs).flatten.length=k * xs.length:=by
 induction k with
 | zero=>simp
 | succ k ih=>rw [replicate_succ,flatten_cons,length_append,ih,Nat.succ_mul,Nat.add_comm]
theorem op_rep:OpR X (binaryOp .Mult) rRep:=by
 intro pins s σ H x y v u Q I rx ry h
 obtain ⟨l,k,xs,rfl,rfl,hH,h1,h2,hz,q⟩:=h
 cases rx
 obtain ⟨t,rfl⟩:=ry
 obtain ⟨z,its,n,r,hl,e⟩:=I.lstM hH
 have hlen:its.toArray.size * k.toNat<=sizeLine:=by rw [size_toArray,<- hl];exact hz
 have hcap:¬ its.toArray.size * k.toNat > (2 ^ 63 - 1) / 8:=by
  have:(sizeLine:Nat)<=(2 ^ 63 - 1) / 8:=by decide
  lia
 have hfit:¬ (!Builtin.List.listFitsIndex k)=true:=by
  rw [fitsIndex_both h1 h2]
  exact Bool.false_ne_true
 have hlong:¬ Builtin.List.listTooLong (its.toArray.size * k.toNat)=true:=by
  rw [Ziw hlen]
  exact Bool.false_ne_true
 have hnew:List.foldl (fun x1 x2=>x1++x2) #[] (List.replicate (if its.toArray.isEmpty=true then 0 else k.toNat) its.toArray)=(List.replicate k.toNat its).flatten.toArray:=by
  have f0:∀ m:Nat,List.foldl (fun x1 x2=>x1++x2) #[] (List.replicate m its.toArray)=(List.replicate m its).flatten.toArray:=fun m=>by
   have:=Zhi its m []
   rw [nil_append] at this
   exact this
  rw [f0]
  cases its with
  | nil=>simp
  | cons a r'=>rw [if_neg (by simp)]
 refine wpAny_binaryOp_repeat_ref (T:="list") (U:="int") (by decide) ⟨_,e,rfl⟩ (fun s'=>typeIs_int s' k t) noFill_list_mul F.fills_int_mul F.slot_int_rmul repeat_list F.slot_int_index.lookup
  (call_meets F.slot_int_rmul (typeIs_int s k t) F.entry_int_rmul (F.args_int_rmul_2 _ _) (int___rmul___int_list k t l its.toArray n)
   ⟨e,rfl,⟨_,e,rfl⟩,call_meets F.slot_list_mul ⟨_,e,rfl⟩ F.entry_list_mul (F.args_list_mul_2 _ _) (AutoListH.list___mul___list_int_3 l its.toArray n k t hfit hcap hlong) ⟨e,?_⟩⟩)
 rw [hnew]
 exact ⟨.ref _,_,I.lnew (t':=s.toks) (r.rep k.toNat) (by rw [ZnZ,Nat.mul_comm];exact hz),rfl,q _ I.fresh⟩
end
section
variable {prog:Program} {w:World} {A:Around} {E:Value->Shared->Prop} {s:Shared}
set_option maxRecDepth 100000 in
end
section
variable {X:Cx}
end
end L2
namespace L2
open PySem PySem.Spec PyProof.Rows
section
variable {κ:Type} [DecidableEq κ]
noncomputable def valV (kvs:List (κ×V)) (k:κ):Option V:=(kvs.find? fun kv=>decide (kv.1=k)).map (·.2)
noncomputable def putK (kvs:List (κ×V)) (k:κ) (v:V):List (κ×V) :=
 if (kvs.any fun kv=>decide (kv.1=k))=true then kvs.map (fun kv=>if kv.1=k then (kv.1,v) else kv) else kvs++[(k,v)]
theorem Zgf {p:κ×V} {r:List (κ×V)} {k:κ} (e:p.1=k):valV (p::r) k=some p.2:=by simp [valV,find?_cons,e]
theorem Zgg {p:κ×V} {r:List (κ×V)} {k:κ} (e:¬ p.1=k):valV (p::r) k=valV r k:=by simp [valV,find?_cons,e]
theorem Zgh (k : κ) : ∀ kvs : List (κ × V), (kvs.any fun kv => decide (kv.1 = k)) = (valV kvs k).isSome
  | [] => rfl
  | p :: r => by
    rw [any_cons]
    by_cases e : p.1 = k
    · simp only [Zgf e, decide_eq_true e, Bool.true_or, Option.isSome_some]
    · rw [Zgg e, decide_eq_false e, Bool.false_or]; exact Zgh k r
theorem ZhQ (kvs:List (κ×V)) (k:κ) (v:V):(putK kvs k v).length<=kvs.length+1:=by
 unfold putK
 split
 ·rw [length_map];lia
 ·rw [length_append,length_cons,length_nil];lia
theorem ZlG {kvs:List (κ×V)} {k:κ} (v:V) (h:valV kvs k=none):putK kvs k v=kvs++[(k,v)]:=by
 unfold putK
 rw [Zgh,h]
 exact if_neg (by decide)
theorem RelO.getD {o : Option V} {u : Option Value} {d : V} {d' : Value} (r : RelO o u) (rd : RelV d d') : RelV (o.getD d) (u.getD d') := by
  cases o with
  | none => cases u with
    | none => exact rd
    | some _ => exact (show False from r).elim
  | some _ => cases u with
    | none => exact (show False from r).elim
    | some _ => exact r
theorem KV.val {kvs : List (κ × V)} {vs : List (κ × Value)} (r : KV kvs vs) (k : κ) : RelO (valV kvs k) (valueAt vs k) := by
  unfold KV at r
  induction r with
  | nil => exact True.intro
  | @cons p q ps qs h t ih =>
    obtain ⟨h1, h2⟩ := h
    by_cases e : p.1 = k
    · have e' : q.1 = k := h1.symm.trans e
      have b : valueAt (q :: qs) k = some q.2 := by simp [valueAt, find?_cons, e']
      rw [Zgf e, b]; exact h2
    · have e' : ¬ q.1 = k := fun z => e (h1.trans z)
      have b : valueAt (q :: qs) k = valueAt qs k := by simp [valueAt, find?_cons, e']
      rw [Zgg e, b]; exact ih
theorem KV.any {kvs:List (κ×V)} {vs:List (κ×Value)} (r:KV kvs vs) (k:κ):(kvs.any fun kv=>decide (kv.1=k))=vs.any fun kv=>decide (kv.1=k):=by
 unfold KV at r
 induction r with
 | nil=>rfl
 | cons h t ih=>rw [any_cons,any_cons,ih,h.1]
theorem KV.repl {kvs : List (κ × V)} {vs : List (κ × Value)} (r : KV kvs vs) (k : κ) {y : V} {u : Value} (ry : RelV y u) :
    KV (kvs.map fun kv => if kv.1 = k then (kv.1, y) else kv) (vs.map fun kv => if kv.1 = k then (kv.1, u) else kv) := by
  unfold KV at r ⊢
  induction r with
  | nil => exact .nil
  | @cons p q ps qs h t ih =>
    rw [map_cons, map_cons]
    refine .cons ?_ ih
    obtain ⟨h1, h2⟩ := h
    by_cases e : p.1 = k
    · rw [if_pos e, if_pos (h1.symm.trans e)]; exact ⟨h1, ry⟩
    · rw [if_neg e, if_neg (fun z => e (h1.trans z))]; exact ⟨h1, h2⟩
theorem KV.put {kvs:List (κ×V)} {vs:List (κ×Value)} (r:KV kvs vs) (k:κ) {y:V} {u:Value} (ry:RelV y u):KV (putK kvs k y) (stored vs k u):=by
 unfold putK stored
 rw [r.any k]
 by_cases e:(vs.any fun kv=>decide (kv.1=k))=true
 ·rw [if_pos e,if_pos e];exact r.repl k ry
 ·rw [if_neg e,if_neg e];exact Paired.snoc r ⟨rfl,ry⟩
end
theorem Zku {P:Program} {w:World} {k:Key} {u:Value} (r:RelV (kV k) u):(Zbt P w).is k u=true:=by
 cases k with
 | inl i=>obtain ⟨t,e⟩:=(show ∃ t,u=Value.int i t from r);subst e;exact ZhN P w i t
 | inr x=>obtain ⟨t,e⟩:=(show ∃ t,u=Value.str x t from r);subst e;exact Zdp P w x t
theorem Zhf {P : Program} {w : World} : ∀ {ks : List Key} {us : List Value}, Vals (ks.map kV) us -> ItemsAre (Zbt P w) ks us
  | [], _, r => by rw [map_nil] at r; cases r; exact .nil
  | k :: ks, _, r => by
    rw [map_cons] at r
    cases r with
    | cons h t => exact .cons (Zku h) (Zhf t)
noncomputable abbrev KT (H:Hp):List (List Key×V)->List (List Key×Addr×Value)->Prop:=Paired fun p q=>p.1=q.1/\H q.2.1=some (.tup (p.1.map kV))/\RelV p.2 q.2.2
theorem KT.val {H : Hp} {kvs : List (List Key × V)} {xs : List (List Key × Addr × Value)} (r : KT H kvs xs) (k : List Key) : RelO (valV kvs k) ((atKey xs k).map (·.2)) := by
  induction r with
  | nil => exact True.intro
  | @cons p q ps qs h t ih =>
    obtain ⟨h1, _, h2⟩ := h
    by_cases e : p.1 = k
    · have e' : q.1 = k := h1.symm.trans e
      have b : atKey (q :: qs) k = some q.2 := by simp [atKey, find?_cons, e']
      rw [Zgf e, b]; exact h2
    · have e' : ¬ q.1 = k := fun z => e (h1.trans z)
      have b : atKey (q :: qs) k = atKey qs k := by simp [atKey, find?_cons, e']
      rw [Zgg e, b]; exact ih
section
variable {P:Program} {w:World} {H:Hp} {h:Heap} {a:Addr}
theorem rd_of {u:HO} (ok:HOk P w H h) (e:Rd H a u):ObjOk P w H h a u:=e.ok ok
theorem Zog {kvs:List (Key×V)} (ok:HOk P w H h) (e:Rd H a (.dK kvs)):kvs.length<=sizeLine/\(a == sysModules)=false/\∃ vs,KV kvs vs/\h.DictOf (Zbt P w) a vs :=
 show ObjOk P w H h a (.dK kvs) from rd_of ok e
theorem dk_of {kvs:List (Key×V)} (ok:HOk P w H h) (e:H a=some (.dK kvs)):kvs.length<=sizeLine/\(a == sysModules)=false/\∃ vs,KV kvs vs/\h.DictOf (Zbt P w) a vs:=Zog ok (.inl e)
theorem ZmM {ks:List Key} (ok:HOk P w H h) (e:H a=some (.tup (ks.map kV))):(tupleKind (Zbt P w)).is h ks a:=by
 obtain ⟨_,its,r,o,h1,h2,n,h3⟩:=(show ObjOk P w H h a (.tup (ks.map kV)) from ok a _ e)
 exact ⟨o,its.toArray,n,h1,h2,h3,by simpa using Zhf r⟩
theorem dt_rd {kvs : List (List Key × V)} (ok : HOk P w H h) (e : Rd H a (.dT kvs)) : kvs.length <= sizeLine /\ (a == sysModules) = false /\
    ∃ xs, KT H kvs xs /\ h.DictOfH (tupleKind (Zbt P w)) a xs := by
  obtain ⟨z, y, xs, r, o, es, ep, h1, h2, h3, h4, h5⟩ := (show ObjOk P w H h a (.dT kvs) from rd_of ok e)
  refine ⟨z, y, xs, r, o, es, ep, h1, h2, h3, h4, fun x hx => ?_, h5⟩
  have all : ∀ {l : List (List Key × V)} {m : List (List Key × Addr × Value)}, KT H l m -> ∀ x ∈ m, (tupleKind (Zbt P w)).is h x.1 x.2.1 := by
    intro l m q
    induction q with
    | nil => intro x hx; exact nomatch hx
    | @cons p q ps qs hq t ih =>
      intro x hx
      rcases mem_cons.mp hx with e | hx
      · subst e
        exact ZmM ok (by rw [<- hq.1]; exact hq.2.1)
      · exact ih x hx
  exact all r x hx
end
noncomputable def DGet (H:Hp) (a:Addr) (y:V) (r:Option V):Prop :=
 (∃ kvs k,Rd H a (.dK kvs)/\y=kV k/\r=valV kvs k)\/∃ kvs k b,Rd H a (.dT kvs)/\y=.ref b/\H b=some (.tup (k.map kV))/\r=valV kvs k
section
variable {X:Cx} {pins:List (Addr×Obj)} {σ:St} {H:Hp} {s:Shared} {a:Addr} {y v:V} {u r:Value} {o:Option V} {A:Around} {E:Value->Shared->Prop}
theorem Inv.big (I:Inv X pins σ H s):sysModules < s.heap.objs.size:=by
 have h:mainGlobals < s.heap.objs.size:=(I.mod.glob.keeps I.bk).lt
 exact Nat.lt_trans (by decide) h
theorem Zoj {h':Heap} {t':Nat} {ob:HO} (I:Inv X pins σ H s) (mu:Mut (H a)) (hs:Heap.SameBut a s.heap h') (he:∃ q,h'.get? a=some q) (new:ObjOk X.prog X.w (upd H a ob) h' a ob) :
  Inv X pins σ (upd H a ob) { s with heap:=h',toks:=t' } :=
 I.write (x:=a) (e:=a) mu (.inl rfl) (fun b q hb z=>(hs.2 b hb).trans z) he new
theorem dk_new {P:Program} {w:World} {H':Hp} {h':Heap} {kvs:List (Key×V)} {vs:List (Key×Value)} (z:kvs.length<=sizeLine) (hd:(a == sysModules)=false) (rel:KV kvs vs) (dd:h'.DictOf (Zbt P w) a vs) :
  ObjOk P w H' h' a (.dK kvs):=⟨z,hd,vs,rel,dd⟩
end
section
variable {X:Cx} {pins:List (Addr×Obj)} {σ:St} {H:Hp} {s:Shared} {a:Addr} {kvs:List (Key×V)} {k:Key} {u:Value} {A:Around} {E:Value->Shared->Prop}
end
noncomputable def NoSl (i:Expr):Prop:=∀ ov iv,subscripted i false ov iv=operate [ov,iv] (getItem ov iv)
theorem Zm7 {prog:Program} {w:World} {A:Around} {E:Value->Shared->Prop} {s:Shared} {env:Env} {value slice:Expr} {pos:Pos} {T id:String} {Q:Value->Shared->Prop}
  (hl:typeLookup (.type T) "__getitem__"=pure (some (.builtin id))) (hs:NoSl slice)
  (h:wpAny (model prog w) A (eval value env) (fun o s₁=>wpAny (model prog w) A (eval slice env) (fun i s₂=>s₂.TypeIs o T/\wpAny (model prog w) A (getItem o i) Q E s₂) E s₁) E s) :
  wpAny (model prog w) A (eval (.Subscript value slice pos) env) Q E s:=by
 refine Subscript_ (wpAny_mono h (fun o s₁ h₁=>wpAny_mono h₁ (fun i s₂ h₂=>?_) fun _ _ x=>x) fun _ _ x=>x)
 obtain ⟨hT,h₂⟩:=h₂
 unfold subscriptTail
 refine wpAny_bind ?_
 rw [getitemInPython_of_ne hT.not_modules]
 refine wpAny_bind (wpAny_specialOf hT hl ?_)
 have fin:wpAny (model prog w) A (subscripted slice false o i) (fun r s₃=>wpAny (model prog w) A (letTemporaryGo value o r >>= fun _=>pure r) Q E s₃) E s₂:=by
  rw [hs o i]
  exact wpAny_operating (wpAny_mono h₂ (fun r s₃ h₃=>wpAny_bind (wpAny_letTemporaryGo (wpAny_pure h₃))) fun _ _ x=>x)
 first
  | exact wpAny_pure (wpAny_bind fin)
  | exact wpAny_bind (wpAny_pure (wpAny_bind fin))
  | exact wpAny_bind fin
section
variable {X:Cx} {o i e value:Expr} {pos pos' tpos:Pos} {td ty tv:TE}
end
theorem Zmd {P:Program} {w:World} {H:Hp} (h:Heap) (hb:sysModules < h.objs.size):ObjOk P w H (h.push { cls:=.type "dict",data:=.dict #[] }) h.objs.size (.dK []) :=
 ⟨Nat.zero_le _,beq_eq_false_iff_ne.mpr (Ne.symm (Nat.ne_of_lt hb)),[],.nil,Heap.DictOf.new h⟩
section
variable {X:Cx} {pos:Pos}
end
noncomputable def Zfd:List (TE×TE)->St->Hp->(List (V×V)->Hp->Prop)->Prop
 | [],_,H,Q=>Q [] H
 | (tk,tv)::r,σ,H,Q=>tk σ H fun x H1=>tv σ H1 fun y H2=>Zfd r σ H2 fun ps H3=>Q ((x,y)::ps) H3
noncomputable abbrev VV:List (V×V)->List (Value×Value)->Prop:=Paired fun p q=>RelV p.1 q.1/\RelV p.2 q.2
noncomputable def PPs (X:Cx) (pos:Pos) (keys:List (Option Expr)) (values:List Expr) (trs:List (TE×TE)):Prop :=
 ∀ (pins:List (Addr×Obj)) (s:Shared) (σ:St) (H:Hp) (Q:List (V×V)->Hp->Prop),Inv X pins σ H s->Zfd trs σ H Q ->
  wpAny (model X.prog X.w) X.A (evalPairs (pairTrees keys values X.env pos)) (fun vs s'=>∃ ps H',Inv X pins σ H' s'/\VV ps vs/\Q ps H') X.xe s
theorem ZnJ {X:Cx} {pos:Pos}:PPs X pos [] [] []:=fun pins s σ H Q I h=>pairTrees_nil_walk ⟨[],H,I,.nil,h⟩
theorem Zip {X:Cx} {pos:Pos} {k v:Expr} {ks:List (Option Expr)} {vs:List Expr} {tk tv:TE} {trs:List (TE×TE)} (hk:PE X k tk) (hv:PE X v tv) (hr:PPs X pos ks vs trs) :
  PPs X pos (some k::ks) (v::vs) ((tk,tv)::trs):=fun pins s σ H Q I h =>
 pairTrees_cons_walk (thn (hk pins s σ H _ I h) fun u s1 ⟨x,H1,I1,rx,q1⟩=>thn (hv pins s1 σ H1 _ I1 q1) fun w2 s2 ⟨y,H2,I2,ry,q2⟩ =>
  thn (hr pins s2 σ H2 _ I2 q2) fun ws s3 ⟨ps,H3,I3,rel,q3⟩=>⟨(x,y)::ps,H3,I3,.cons ⟨rx,ry⟩ rel,q3⟩)
noncomputable def ZeT (kvs more:List (Key×V)):List (Key×V):=more.foldl (fun acc kv=>putK acc kv.1 kv.2) kvs
theorem KV.merge : ∀ {more : List (Key × V)} {rs : List (Key × Value)} {kvs : List (Key × V)} {vs : List (Key × Value)}, KV more rs -> KV kvs vs -> KV (ZeT kvs more) (merged vs rs) := by
  intro more rs kvs vs r
  unfold KV at r
  induction r generalizing kvs vs with
  | nil => intro q; exact q
  | @cons p q ps qs h t ih =>
    intro r0
    have e : KV (putK kvs p.1 p.2) (stored vs q.1 q.2) := by
      have := r0.put p.1 h.2
      rw [<- h.1]; exact this
    exact ih e
theorem Zen : ∀ (more kvs : List (Key × V)), (ZeT kvs more).length <= kvs.length + more.length
  | [], kvs => by show kvs.length <= kvs.length + 0; lia
  | p :: r, kvs => by
    have h1 := Zen r (putK kvs p.1 p.2)
    have h2 := ZhQ kvs p.1 p.2
    show (ZeT (putK kvs p.1 p.2) r).length <= _
    rw [length_cons]; lia
theorem Zgd {P : Program} {w : World} : ∀ {kvs : List (Key × V)} {ws : List (Value × Value)}, VV (kvs.map fun kv => (kV kv.1, kv.2)) ws -> ∃ rs, Carries (Zbt P w) ws rs /\ KV kvs rs
  | [], _, r => by rw [map_nil] at r; cases r; exact ⟨[], True.intro, .nil⟩
  | p :: kvs, _, r => by
    rw [map_cons] at r
    cases r with
    | @cons a b as bs h t =>
      obtain ⟨rs, c, q⟩ := Zgd (P := P) (w := w) t
      obtain ⟨b1, b2⟩ := b
      exact ⟨(p.1, b2) :: rs, ⟨Zku h.1, rfl, c⟩, .cons ⟨rfl, h.2⟩ q⟩
noncomputable def tDisp (trs:List (TE×TE)):TE:=fun σ H Q=>∀ p,H p=none->Zfd trs σ (upd H p (.dK [])) fun ps H2=>H2 p=some (.dK [])/\∃ kvs:List (Key×V),ps=kvs.map (fun kv=>(kV kv.1,kv.2))/\kvs.length<=15/\Q (.ref p) (upd H2 p (.dK (ZeT [] kvs)))
theorem ZnL {X:Cx} {pos:Pos} {keys:List (Option Expr)} {values:List Expr} {trs:List (TE×TE)} (h:PPs X pos keys values trs) (hall:keys.all (·.isSome)=true) (hl:keys.length=values.length) (h0:keys≠[])
  (h15:keys.length<=15):PE X (.Dict keys values pos) (tDisp trs):=by
 intro pins s σ H Q I q
 have hn:=I.hok.fresh (Nat.le_refl s.heap.objs.size)
 have I1:=I.laid (a:=s.heap.objs.size) (o:=.dK []) (h':=s.heap.push { cls:=.type "dict",data:=.dict #[] }) (t':=s.toks) (fun _ _ q=>Heap.get?_push_of_some _ q) (Nat.le_refl _) (Zmd s.heap I.big)
 refine wpAny_Dict_walk (knd:=Zbt X.prog X.w) hall hl h0 h15 (thn (h pins _ σ _ _ I1 (q _ hn)) fun ws s2 ⟨ps,H2,I2,rel,e,kvs,ep,lk,q2⟩=>?_)
 subst ep
 obtain ⟨rs,c,rk⟩:=Zgd (P:=X.prog) (w:=X.w) rel
 obtain ⟨z,hd,vs0,r0,dd⟩:=dk_of I2.hok e
 cases r0
 refine ⟨rs,c,dd,fun h' dd' hs=>⟨.ref s.heap.objs.size,_,?_,rfl,q2⟩⟩
 have hz:(ZeT [] kvs).length<=sizeLine:=by
  have h1:=Zen kvs []
  rw [length_nil] at h1
  rw [sizeLine_eq];lia
 have he:∃ q,h'.get? s.heap.objs.size=some q:=let ⟨q,_,_,hq,_⟩:=dd';⟨q,hq⟩
 exact Zoj I2 (by rw [e];exact True.intro) hs he (dk_new hz hd (rk.merge .nil) dd')
structure M2 (X:Cx) (o:Expr) (m:Str) (apos:Pos) (e f:Expr) (cpos:Pos):Prop where
 base:attributeBase o m X.env (eval o X.env)=eval o X.env
 few:((backTo cpos (starEach [e,f] X.env)).all (fun x=>!x.1) && (backToKw cpos (keywordEach [] X.env)).all (fun x=>x.1.isSome)
  && decide (([e,f]:List Expr).length+([]:List Keyword).length+(if ([]:List Keyword).isEmpty then 0 else 1) < 30))=true
 line:(apos.endLine == cpos.line)=true
 trees:backTo cpos (starEach [e,f] X.env)=[(false,eval e X.env),(false,eval f X.env)]
noncomputable def IsD (H:Hp) (a:Addr):Prop:=(∃ kvs,Rd H a (.dK kvs))\/∃ kvs,Rd H a (.dT kvs)
theorem isD_at {X:Cx} {pins:List (Addr×Obj)} {σ:St} {H:Hp} {s:Shared} {a:Addr} (I:Inv X pins σ H s) (d:IsD H a) :
  s.TypeIs (.ref a) "dict"/\(∀ b,Value.ref a=.ref b->∃ ob,s.heap.get? b=some ob/\ob.dict=none)/\(a == sysModules)=false:=by
 rcases d with ⟨kvs,e⟩|⟨kvs,e⟩
 ·obtain ⟨_,hd,vs,_,dd⟩:=Zog I.hok e
  refine ⟨dd.typeIs,fun b q=>?_,hd⟩
  cases q
  obtain ⟨ob,_,_,h1,h2,_⟩:=dd
  exact ⟨ob,h1,h2.2.1⟩
 ·obtain ⟨_,hd,xs,_,dd⟩:=dt_rd I.hok e
  refine ⟨dd.typeIs,fun b q=>?_,hd⟩
  cases q
  obtain ⟨ob,_,_,h1,h2,_⟩:=dd
  exact ⟨ob,h1,h2.2.1⟩
section
variable {X:Cx} {pins:List (Addr×Obj)} {σ:St} {H:Hp} {s:Shared} {a:Addr} {y d:V} {u r:Value} {o:Option V} {A:Around} {E:Value->Shared->Prop}
theorem d_get2 {Q:Value->Shared->Prop} (hu:A.units+1 < cLine) (I:Inv X pins σ H s) (g:DGet H a y o) (ry:RelV y u) (rd:RelV d r) (h:∀ w' s',Inv X pins σ H s'->RelV (o.getD d) w'->Q w' s') :
  wpAny (model X.prog X.w) A (call (.builtin "dict.get") [.ref a,u,r]) Q E s:=by
 rcases g with ⟨kvs,k,e,ey,l⟩|⟨kvs,k,b,e,ey,eb,l⟩
 ·subst ey
  obtain ⟨z,hd,vs,rel,dd⟩:=Zog I.hok e
  refine call_meetsIn PySem.F.slot_dict_get dd.typeIs PySem.F.entry_dict_get (PySem.F.args_dict_get_3 _ _ _) (meets_dict_get_default (Zbt X.prog X.w) a (Zku ry) hd r) ⟨_,dd.mapOf,h _ _ (I.tok _) ?_⟩
  rw [l]
  exact (rel.val k).getD rd
 ·subst ey
  cases (show u=Value.ref b from ry)
  obtain ⟨z,hd,xs,rel,dd⟩:=dt_rd I.hok e
  refine call_meetsIn PySem.F.slot_dict_get dd.typeIs PySem.F.entry_dict_get (PySem.F.args_dict_get_3 _ _ _) (meetsH_dict_get_default (tupleKind (Zbt X.prog X.w)) a b hd r) ⟨tupleKind_room_in1 hu,k,xs,ZmM I.hok eb,dd,h _ _ (I.tok _) ?_⟩
  rw [l]
  exact (rel.val k).getD rd
end
noncomputable def Zmv (td ty tx:TE):TE:=fun σ H Q=>td σ H fun x H1=>∃ a,x=.ref a/\IsD H1 a/\ty σ H1 fun y H2=>tx σ H2 fun z H3=>∃ o,DGet H3 a y o/\Q (o.getD z) H3
section
variable {X:Cx} {o e f:Expr} {apos cpos:Pos} {td ty tx:TE}
theorem ZlL (hu:X.A.units+1 < cLine) (ho:PE X o td) (he:PE X e ty) (hf:PE X f tx) (m:M2 X o "get" apos e f cpos):PE X (.Call (.Attribute o "get" apos) [e,f] [] cpos) (Zmv td ty tx):=by
 intro pins s σ H Q I h
 refine wpAny_Call_method m.base m.few m.line PySem.F.plainAttrs_dict PySem.F.slot_dict_get PySem.F.type_dict_get (thn (ho pins s σ H _ I h) fun u s1 ⟨x,H1,I1,rx,a,ex,d,q1⟩=>?_)
 subst ex
 obtain rfl:u=Value.ref a:=rx
 obtain ⟨t1,t2,_⟩:=isD_at I1 d
 refine ⟨t1,t2,?_⟩
 rw [m.trees]
 refine Calls.callWith_builtin rfl (Calls.evalArgs_plain (Calls.spliced_cons (thn (he pins s1 σ H1 _ I1 q1) fun iv s2 ⟨y,H2,I2,ry,q2⟩ =>
  Calls.spliced_cons (thn (hf pins s2 σ H2 _ I2 q2) fun fv s3 ⟨z,H3,I3,rz,ov,g,q3⟩=>Calls.spliced_nil ?_))))
 exact d_get2 hu I3 g ry rz fun w' s4 I4 rw'=>⟨_,H3,I4,rw',q3⟩
end
section
variable {X:Cx} {pins:List (Addr×Obj)} {σ:St} {H:Hp} {s:Shared} {a:Addr} {kvs:List (Key×V)} {A:Around} {E:Value->Shared->Prop}
end
section
variable {X:Cx} {pins:List (Addr×Obj)} {σ:St} {H:Hp} {s:Shared} {a:Addr} {y:V} {u:Value} {A:Around} {E:Value->Shared->Prop}
end
end L2
namespace Att
open PySem PySem.W PySem.Calls PyProof.Rows
theorem Zfz {P : Params} {h : Heap} : ∀ (ns : List Int) (vs : List Value), WellAll P h vs (ns.map WData.int) -> IntsAre vs ns := by
  intro ns
  induction ns with
  | nil =>
    intro vs w
    rw [map_nil] at w
    cases w
    exact .nil
  | cons n ns ih =>
    intro vs w
    rw [map_cons] at w
    cases w with
    | cons a b =>
      cases a
      exact .cons _ _ (ih _ b)
theorem Zjy {l : OpenLaw} {n : Nat} (hn : l.most = some n) {P : Params} {h : Heap} {args : List WData} {vals : List Value}
    (hpre : l.row.toRowW.claim.pre args = true) (hwl : WellAll P h vals args) :
    ∃ a vs ns, vals = [Value.ref a] /\ args = [WData.list (ns.map WData.int)] /\ h.get? a = some { cls := .type "list", data := .seq vs.toArray } /\ IntsAre vs ns /\ ns.length <= n := by
  have hsh : WShape.hasAll [] args [.list .int] = true := (pre_splitW hpre).1
  have hc : l.pre.holds [] { args := args } = true := (pre_splitW hpre).2
  obtain ⟨d, r, rfl, h1, h2⟩ := hasAllW_cons hsh
  obtain rfl := hasAllW_nil h2
  obtain ⟨xs, rfl, h3⟩ := hasW_list h1
  obtain ⟨ns, rfl⟩ := items_int h3
  have hlen : ns.length <= n := by
    unfold OpenLaw.pre at hc
    have h4 : (WTm.not (.lt (.lit (.int (n : Int))) (.len (.arg 0)))).holds [] { args := [.list (ns.map .int)] } = true := by
      have h4 := (holds_andW hc).1
      rw [hn] at h4
      exact h4
    have h5 := condW_of h4 (w_not (w_lt w_lit (w_len_list (w_arg rfl))))
    rw [length_map] at h5
    refine Nat.le_of_not_lt fun q => ?_
    have q' : (n : Int) < ((ns.length : Nat) : Int) := by lia
    first
      | (rw [decide_eq_true q'] at h5; exact absurd h5 (by decide))
      | (simp at h5; lia)
  cases hwl with
  | cons w1 w2 =>
    cases w2
    cases w1 with
    | list ho hall => exact ⟨_, _, ns, rfl, rfl, ho, Zfz ns _ hall, hlen⟩
theorem Zj0 (l:OpenLaw) (args:List WData):l.row.toRowW.claim.post args (.bool true) args=true :=
 postW_of (r:=l.row.toRowW) (X:=(true == true))
  (show WShape.has [] (.bool true) .bool=true by first|rfl|decide|simp [WShape.has,WShape.arms,WShape.armsAll])
  (show (WTm.eq .res (.lit (.bool true))).value [] { args:=args,res:=some (.bool true),after:=args }=some (.bool (true == true)) from w_eq_bool (w_res rfl) w_lit) rfl
theorem attach_call {l:OpenLaw} {n:Nat} {q:Program} {loose:List Str} {XP:(Str->Option Value)->Heap->Prop} {YP:World->Heap->Prop} {d:DefRec}
  (hn:l.most=some n) (hdf:d.params.defaults=[])
  (call:∀ (w:World) (s₀ s₁:Shared) (mg mb:Str->Option Value) (fa:Addr) (o:Obj) (pm cd doc:Value) (a:Addr) (vs:List Value) (ns:List Int),
   Ground q loose [] XP w s₀ mg mb s₁.heap->YP w s₁.heap ->
   s₁.heap.get? fa=some o->o.data=.func (docDef d.name d.params d.body d.scope pm cd doc)->s₁.heap.CodeRec cd d.name->mg d.name=some (.ref fa) ->
   s₁.heap.get? a=some { cls:=.type "list",data:=.seq vs.toArray }->IntsAre vs ns->ns.length<=n->s₁.gens=#[] ->
   codeAny (model l.prog w) callerA (.call (.ref fa) ⟨[.ref a],[]⟩) (fun r s'=>r=.ok (.ret (.bool true))/\OldK s₁.heap s'.heap/\s'.os=s₁.os/\AllBare s'.gens) s₁) :
  WalkO q loose XP YP l.row.toRowW d [] (fun f vs=>PySem.call f vs):=by
 intro w s₀ s₁ mg mb G Y fa o pm cd doc dV kV ho hd hcd hD hmg hg args vals as hpre hlay hrd hwl hlo
 obtain rfl:dV=.none:=Dflts.none hD hdf
 obtain rfl:kV=.none:=Dflts.noKw hD
 obtain ⟨a,vs,ns,rfl,rfl,hobj,hints,hlen⟩:=Zjy hn hpre hwl
 refine enter_call (codeAny_mono (call w s₀ s₁ mg mb fa o pm cd doc a vs ns G Y ho (fd_plain hd) hcd hmg hobj hints hlen hg) fun r s' hq=>?_)
 obtain ⟨rfl,h2,h3,h4⟩:=hq
 exact ⟨.inl ⟨.bool true,.bool true,[],rfl,fun _=>rfl,.bool true,Zj0 l _,fun _=>⟨List.Pairwise.nil,fun _ hm=>(nomatch hm)⟩⟩,h2,h3,h4⟩
section
variable {prog:Program} {w:World} {A:Around} {E:Value->Shared->Prop} {s:Shared} {K:Frag}
noncomputable def ledger (h:Heap) (L d:Addr):List (Addr×Obj):=(List.range h.objs.size).filterMap fun a=>if a=L\/a=d then none else (h.get? a).map fun o=>(a,o)
end
end Att
namespace L2
open PySem PySem.Spec PyProof.Rows
theorem ZgU:∀ {vs:List Value} {ns:List Int},IntsAre vs ns->Vals (ns.map V.int) vs
 | _,_,.nil=>.nil
 | _,_,.cons n t h=>.cons ⟨t,rfl⟩ (ZgU h)
noncomputable def Only (H:Hp):Prop:=∀ b,H b=none\/∃ o xs,H b=some (.frz o (.lst xs))
theorem Zl1 {P : Program} {w : World} {K : PySem.W.Frag} {mg mb : Str -> Option Value} {CX : CXT} {k : Nat} {fa a : Addr} {fd : FuncData} {x : Str} {sp : Sp} {s₁ : Shared} {vs : List Value} {ns : List Int}
    (KX : K.In s₁.heap) (hns : s₁.heap.Ns mainGlobals mg) (hb : s₁.heap.Ns builtinsNs mb) (hbb : ∀ x : Str, x ≠ "__name__" -> mb x = bootBuiltins x) (hlim : s₁.heap.NoLimit) (hg : s₁.gens = #[])
    (ha : s₁.heap.get? a = some { cls := .type "list", data := .seq vs.toArray }) (hi : IntsAre vs ns) (hl : ns.length <= sizeLine) (hr : Room k callerA)
    (F : ∀ base : Heap, K.In base -> base.Ns mainGlobals mg -> FnOk P w K mg base CX k fa fd [x] sp) (hbind : ∀ (s : Shared) (u : Value), BindsTo s fd ⟨[u], []⟩ [(x, u)])
    (hsp : ∀ H : Hp, Only H -> SqL K H a (ns.map V.int) -> sp [.ref a] H (fun v _ => v = .bl true) fun _ _ _ => False)
    (hCX : ∀ H e s', CX [] H s₁ (fun _ _ _ => False) e s' -> False) :
    codeAny (model P w) callerA (.call (.ref fa) ⟨[.ref a], []⟩) (fun r s' => r = .ok (.ret (.bool true)) /\ OldK s₁.heap s'.heap /\ s'.os = s₁.os /\ AllBare s'.gens) s₁ := by
  have rv := ZgU hi
  have lenV := hi.length
  have core : ∀ H : Hp, Only H -> SqL K H a (ns.map V.int) -> HOk P w H s₁.heap -> (∀ b, H b ≠ none -> b = a) -> (H a ≠ none -> K.lookup a = none) ->
      codeAny (model P w) callerA (.call (.ref fa) ⟨[.ref a], []⟩) (fun r s' => r = .ok (.ret (.bool true)) /\ OldK s₁.heap s'.heap /\ s'.os = s₁.os /\ AllBare s'.gens) s₁ := by
    intro H hO hS hok hA hK
    have base_of : ∀ {b : Addr} {o : Obj}, s₁.heap.get? b = some o -> H b = none -> (hidT s₁.heap H).get? b = some o := fun e n => Zl6 e n
    have noA : ∀ {b : Addr} {o : Obj} {es : Array DictEntry} {ep : Nat}, s₁.heap.get? b = some o -> o.data = .dict es ep -> H b = none := fun {b o es ep} e d => by
      cases q : H b with
      | none => rfl
      | some u =>
        have e' : b = a := hA b (by rw [q]; simp)
        subst e'
        rw [ha] at e; cases e
        have d' : Data.seq vs.toArray _ = Data.dict es ep := d
        cases d'
    have nsK : ∀ {b : Addr} {m : Str -> Option Value}, s₁.heap.Ns b m -> (hidT s₁.heap H).Ns b m := fun {b m} ⟨o, es, ep, e, d, r⟩ => ⟨o, es, ep, base_of e (noA e d), d, r⟩
    have hKb : K.In (hidT s₁.heap H) := fun b o e => base_of (KX b o e) (by
      cases q : H b with
      | none => rfl
      | some u =>
        have e' : b = a := hA b (by rw [q]; simp)
        subst e'
        rw [hK (by rw [q]; simp)] at e; cases e)
    have hM : Mod K mg (hidT s₁.heap H) := ⟨hKb, nsK hns, ⟨mb, nsK hb, hbb⟩, let ⟨mc, h1, h2⟩ := hlim; ⟨mc, nsK h1, h2⟩⟩
    have e0 : Env0 P w K mg (hidT s₁.heap H) callerA [] s₁ H := ⟨rfl, hM, fun b o e => ZnW e, Nat.le_of_eq (ZkF _ _), trivial, fun b hb => absurd (show b ∈ ([] : List Addr) from hb) (by simp), hok, .of_eq hg⟩
    refine codeAny_mono ((F _ hKb (nsK hns)).run callerA [] s₁ H ⟨[.ref a], []⟩ [.ref a] [.ref a] _ _ hr e0 (hbind s₁ (.ref a)) (.cons rfl .nil) (hsp H hO hS)) fun r s' h => ?_
    cases r with
    | error e => exact (hCX H e s' h).elim
    | ok fl =>
      cases fl with
      | next => exact False.elim h
      | brk => exact False.elim h
      | cont => exact False.elim h
      | ret u =>
        obtain ⟨v, H', os, bare, un, hok', r', q⟩ := h
        have q' : v = .bl true := q
        subst q'
        obtain rfl : u = Value.bool true := r'
        refine ⟨rfl, OldK.of_keep fun b o e => ?_, os, bare⟩
        cases q : H b with
        | none => exact un.keep b o e q (by intro z; exact absurd (show b ∈ ([] : List Addr) from z) (by simp)) (by simp)
        | some u =>
          rcases hO b with z | ⟨ob, xs, z⟩
          · rw [q] at z; cases z
          · have z2 := un.frzs b ob _ z
            obtain ⟨e1, _⟩ := hok b _ z
            obtain ⟨e2, _⟩ := hok' b _ z2
            rw [e] at e1; cases e1
            exact e2
  cases hk : K.lookup a with
  | some o =>
    have e := KX a o hk
    rw [ha] at e
    cases e
    refine core (fun _ => none) (fun _ => .inl rfl) (.inr ⟨_, vs.toArray, _, hk, rfl, rfl, rfl, by rw [size_toArray, lenV]; exact hl, by simpa using rv⟩) (fun b u z => by have z' : (none : Option HO) = some u := z; cases z') (fun b z => absurd rfl z) fun z => absurd rfl z
  | none =>
    refine core (fun b => if b = a then some (.frz { cls := .type "list", data := .seq vs.toArray } (.lst (ns.map V.int))) else none) (fun b => ?_) (.inl (.inr ⟨{ cls := .type "list", data := .seq vs.toArray }, if_pos rfl⟩)) (fun b u z => ?_) (fun b z => ?_) fun _ => hk
    · by_cases hb : b = a
      · exact .inr ⟨_, _, if_pos hb⟩
      · exact .inl (if_neg hb)
    · by_cases hb : b = a
      · have z' := (if_pos hb).symm.trans z
        cases z'
        subst hb
        exact ⟨ha, by rw [length_map]; exact hl, vs, _, rv, ha⟩
      · have z' := (if_neg hb).symm.trans z
        cases z'
    · by_cases hb : b = a
      · exact hb
      · exact absurd (if_neg hb) z
end L2
namespace L2
open PySem PySem.Spec PyProof.Rows
noncomputable abbrev KOf {K:PySem.W.Frag} {h:Heap} (_:K.In h):PySem.W.Frag:=K
theorem Zjc {l:PySem.W.OpenLaw} {n k:Nat} {q:Program} {loose:List Str} {XP:(Str->Option Value)->Heap->Prop} {YP:World->Heap->Prop} {d:DefRec} {K:Params->PySem.W.Frag} {CX:World->CXT} {sp:World->Sp} {x:Str}
  (hn:l.most=some n) (hn2:n<=sizeLine) (hdf:d.params.defaults=[]) (hr:Room k callerA)
  (hY:∀ (w:World) (h:Heap),YP w h->(K w.params).In h)
  (F:∀ (w:World) (mg:Str->Option Value) (fa:Addr) (h:Heap),(K w.params).In h->h.Ns mainGlobals mg->mg d.name=some (.ref fa) ->
   ∃ fd:FuncData,(∀ (s:Shared) (u:Value),BindsTo s fd ⟨[u],[]⟩ [(x,u)]) /\
    ∀ base:Heap,(K w.params).In base->base.Ns mainGlobals mg->FnOk l.prog w (K w.params) mg base (CX w) k fa fd [x] (sp w))
  (hsp:∀ (w:World) (H:Hp) (a:Addr) (ns:List Int),ns.length<=n->Only H->SqL (K w.params) H a (ns.map V.int)->sp w [.ref a] H (fun v _=>v=.bl true) fun _ _ _=>False)
  (hCX:∀ (w:World) (H:Hp) (s:Shared) (e:Value) (s':Shared),CX w [] H s (fun _ _ _=>False) e s'->False) :
  PySem.W.WalkO q loose XP YP l.row.toRowW d [] (fun f vs=>PySem.call f vs):=by
 refine Att.attach_call hn hdf fun w s₀ s₁ mg mb fa o pm cd doc a vs ns G Y ho hd hcd hmg hobj hints hlen hg=>?_
 have KX:=hY w _ Y
 obtain ⟨fd,hb,hF⟩:=F w mg fa _ KX G.T.g hmg
 exact Zl1 KX G.T.g G.T.b G.T.builtins G.T.nolimit hg hobj hints (Nat.le_trans hlen hn2) hr hF hb (fun H hO hS=>hsp w H a ns hlen hO hS) fun H e s'=>hCX w H s₁ e s'
end L2
/- THE LAST THEOREM (shape; LID, My.* are yours):
   My.Adr: a structure of the addresses that your layer names (classes, functions); My.Txt K t: a structure (Prop) of the equations over K;
   My.txt_mk : {K} {implicit addresses ..} (e1 : nsIn K mainGlobals "law" = some (some (.ref f))) (e2 : K.lookup f = some ⟨oc, od, .func (fnOf "law" "law" params body scope dV kV doc pm an cdv ct), sl⟩) (e3 : codeIn K cdv "law" = true) .. : ∃ t, My.Txt K t
set_option maxRecDepth 100000 in
set_option maxHeartbeats 0 in
theorem PySem.Challenge.cw_LID_holds : PySem.Challenge.rw_LID.Holds := by
 w_on;o_law;k_head;(case hw=>w_witness2)
 k_fill
 refine L2.Zjc (l:=PySem.Challenge.rw_LID) (n:=63) (k:=40) (x:="script") (CX:=fun w=>..) (sp:=fun _=>My.sp_law) rfl (by decide) rfl ⟨rfl,by decide,by decide⟩ (fun w h Y=>PySem.W.kIn_of Y) ?F ?S ?C
 case F =>
  intro w mg fa h KX G hmg
  have T:∃ t,My.Txt (L2.KOf KX) t:=by
   dsimp only [L2.KOf]                          -- K must stand as «<heap const> w.params» for k_is
   refine' My.txt_mk ?e1 ?e2 ?e3 ..
   (case e1=>PySem.W.k_is)                    -- in the order: a name -> its address -> its object -> its parts
   (case e2=>PySem.W.k_is)
   ..
  obtain ⟨t,T⟩:=T
  have e0:=hmg.symm.trans (PySem.W.mg_of KX G T.law)
  cases e0                                       -- fa is the law's own address
  exact ⟨_,fun s u=>.of_eq rfl,fun base kb nb=>My.Zkp T kb nb⟩     -- if «.of_eq rfl» comes too early: refine' ⟨_,?b,fun base kb nb=>My.Zkp T kb nb⟩;exact fun s u=>.of_eq rfl
 case S=>exact fun w H a ns hl hO hS=>..
 case C=>exact ..
(the tactic k_is has no namespace: write k_is) -/
namespace L2
open PySem PySem.Spec PyProof.Rows
noncomputable def ZdL (s:Stmt):Arguments:=match s with
 | .FunctionDef _ a _ _ _ _ _ _ _ _=>a
 | _=>{ posonlyargs:=[],args:=[],vararg:=none,kwonlyargs:=[],kw_defaults:=[],kwarg:=none,defaults:=[] }
noncomputable def ZbU (s:Stmt):List Stmt:=match s with
 | .FunctionDef _ _ b _ _ _ _ _ _ _=>b
 | _=>[]
noncomputable def Zam (s:Stmt):Scope:=match s with
 | .FunctionDef _ _ _ _ _ _ sc _ _ _=>sc
 | _=>{ kind:=.function,names:=[],isGenerator:=false,isCoroutine:=false }
noncomputable abbrev CX0:CXT:=fun _ _ _ _ _ _=>False
noncomputable abbrev E0:XK:=fun _ _ _=>False
theorem pass0 {X:Cx}:Zge CX0 X E0:=fun _ _ _ _ _ _ _ h=>h.elim
structure Fun (K:PySem.W.Frag) (x qual:Str) (st:Stmt) (f:Addr) (fd:FuncData):Prop where
 ex:∃ (oc:Value) (od:Option Addr) (kV doc pm:Value) (an:Option Addr) (cdv ct:Value) (osl:Array (Option Value)),
  fd=PySem.W.fnOf x qual (ZdL st) (ZbU st) (Zam st) .none kV doc pm an cdv ct/\K.lookup f=some ⟨oc,od,.func fd,osl⟩/\PySem.W.codeIn K cdv qual=true
 kp:PySem.W.keepIn K (.ref f)=true
section
variable {P:Program} {w:World} {K:PySem.W.Frag} {mg:Str->Option Value} {base:Heap}
theorem Fun.ok {x qual:Str} {st:Stmt} {f:Addr} {fd:FuncData} {N ps:List Str} {k:Nat} {sp:Sp} (F:Fun K x qual st f fd) (S:FnScope N ps (Zam st)) (len:∀ vs H Q E,sp vs H Q E->vs.length=ps.length)
  (hbody:∀ (cdv:Value) (A:Around) (outer:List Env) (s:Shared) (H:Hp) (vs:List V) (Q:VK) (E:XK),Room k (A.deeper (envOfC qual (Zam st) s.heap.objs.size f cdv))->sp vs H Q E ->
   ∃ t,PSs (cxOf CX0 P w K mg base N qual (Zam st) f cdv A outer s H E).nox (ZbU st) t/\t { nx:=fun _ H'=>Q .non H',rt:=Q } (ZdD N vs) H):FnOk P w K mg base CX0 (k+1) f fd ps sp:=by
 obtain ⟨oc,od,kV,doc,pm,an,cdv,ct,osl,rfl,lk,hcd⟩:=F.ex
 refine fn_of lk hcd S len fun A outer s H vs Q E hr hsp=>?_
 obtain ⟨t,h,q⟩:=hbody cdv A outer s H vs Q E hr hsp
 exact ⟨t,h.nox,q⟩
theorem Fun.binds {x qual:Str} {st:Stmt} {f:Addr} {fd:FuncData} {ps:List Str} (F:Fun K x qual st f fd)
  (h:∀ (kV doc pm:Value) (an:Option Addr) (cdv ct:Value) (us:List Value),us.length=ps.length->bindArgs (PySem.W.fnOf x qual (ZdL st) (ZbU st) (Zam st) .none kV doc pm an cdv ct) ⟨us,[]⟩=pure (ps.zip us)):Binds K fd ps []:=by
 obtain ⟨oc,od,kV,doc,pm,an,cdv,ct,osl,rfl,lk,hcd⟩:=F.ex
 exact .all (h kV doc pm an cdv ct)
theorem ZfC {x qual:Str} {st:Stmt} {f:Addr} {oc:Value} {od an:Option Addr} {osl:Array (Option Value)} {kV doc pm cdv ct:Value} (l:K.lookup f=some ⟨oc,od,.func (PySem.W.fnOf x qual (ZdL st) (ZbU st) (Zam st) .none kV doc pm an cdv ct),osl⟩)
  (c:PySem.W.codeIn K cdv qual=true) (k:PySem.W.keepIn K (.ref f)=true):Fun K x qual st f (PySem.W.fnOf x qual (ZdL st) (ZbU st) (Zam st) .none kV doc pm an cdv ct):=⟨⟨oc,od,kV,doc,pm,an,cdv,ct,osl,rfl,l,c⟩,k⟩
end
theorem hu_of {A:Around} {k:Nat} (hr:Room k A):A.units+1 < cLine:=Nat.lt_of_le_of_lt (Nat.add_le_add_left (by decide:1<=64) _) hr.units
section
variable {X:Cx}
theorem pv (i:Nat) {x:Str} {pos:Pos} (hN:X.N[i]?=some x:=by rfl) (hv:Vis X.env.scope x:=by first|exact Or.inl rfl|exact Or.inr (Or.inl rfl)|exact Or.inr (Or.inr rfl)) (hd:(x == ("__debug__":Str))=false:=by decide)
  (hcd:(x == ("__classdict__":Str))=false:=by decide):PE X (.Name x pos) (tVar i):=pe_var hN hv hd hcd
end
theorem iteF {A B:Prop} (h:B):if false=true then A else B:=by
 rw [if_neg Bool.false_ne_true]
 exact h
theorem iteT {A B:Prop} (h:A):if true=true then A else B:=by
 rw [if_pos rfl]
 exact h
theorem ZhT {c A B:Prop} [Decidable c] (hc:c) (h:B):if (!decide c)=true then A else B:=by
 rw [decide_eq_true hc]
 exact iteF h
noncomputable def Same (H H':Hp):Prop:=∀ b o,H b=some o->H' b=some o
theorem Same.refl (H:Hp):Same H H:=fun _ _ h=>h
theorem Same.trans {H H1 H2:Hp} (a:Same H H1) (b:Same H1 H2):Same H H2:=fun c o h=>b c o (a c o h)
theorem Same.free {H H' : Hp} (e : Same H H') {l : Addr} (h : H' l = Option.none) : H l = Option.none := by
  cases q : H l with
  | none => rfl
  | some o =>
    rw [e l o q] at h
    cases h
theorem Same.seq {K:PySem.W.Frag} {H H':Hp} {a:Addr} {xs:List V} (e:Same H H') (h:SqL K H a xs):SqL K H' a xs:=by
 rcases h with (h|⟨o,h⟩)|h
 ·exact .inl (.inl (e _ _ h))
 ·exact .inl (.inr ⟨o,e _ _ h⟩)
 ·exact .inr h
section
variable {κ:Type} [DecidableEq κ]
theorem Zm1 {kvs:List (κ×V)} {k:κ} {v:V} (h:valV kvs k=some v):k∈kvs.map (·.1):=by
 have q:(kvs.any fun kv=>decide (kv.1=k))=true:=by
  rw [Zgh,h]
  all_goals rfl
 obtain ⟨p,hp,e⟩:=any_eq_true.mp q
 exact mem_map.mpr ⟨p,hp,of_decide_eq_true e⟩
end
end L2
end
section
namespace L2
theorem opq {p:Prop} (h:let g:Prop:=p;g):p:=h
open PySem PySem.Spec PyProof.Rows
theorem ZeI (env : Env) : ∀ (names : List (Str × NameKind)) (acc : List (Str × Addr)),
    (∀ y ∈ names, y.2 = .free -> ∃ c, env.cells.lookup y.1 = some c) ->
    ∃ cl : List (Str × Addr), (forIn names acc fun (x : Str × NameKind) (r : List (Str × Addr)) => (match x with
        | (name, kind) => if (kind == NameKind.free) = true then do
            let a <- cellOf env name
            pure (ForInStep.yield ((name, a) :: r))
          else pure (ForInStep.yield r) : Sem (ForInStep (List (Str × Addr))))) = (pure cl : Sem (List (Str × Addr))) /\
      (∀ x c, cl.lookup x = some c -> acc.lookup x = some c \/ env.cells.lookup x = some c) /\
      (∀ x, (acc.lookup x).isSome = true \/ (x, NameKind.free) ∈ names -> (cl.lookup x).isSome = true)
  | [], acc, _ => ⟨acc, by simp, fun x c h => .inl h, fun x h => h.elim id fun z => nomatch z⟩
  | (n, k) :: r, acc, h => by
    by_cases hk : k = .free
    · subst hk
      obtain ⟨c, hc⟩ := h (n, .free) mem_cons_self rfl
      obtain ⟨cl, e, h1, h2⟩ := ZeI env r ((n, c) :: acc) fun y hy => h y (mem_cons_of_mem _ hy)
      refine ⟨cl, ?_, fun x c' z => ?_, fun x z => ?_⟩
      · rw [forIn_cons]
        have q : cellOf env n = pure c := by unfold cellOf; rw [hc]
        simp only [q, beq_self_eq_true, if_true, pure_bind]
        exact e
      · rcases h1 x c' z with z | z
        · rw [lookup_cons] at z
          by_cases hx : x = n
          · subst hx
            simp at z
            subst z
            exact .inr hc
          · have hb : (x == n) = false := by simpa using hx
            rw [hb] at z
            exact .inl z
        · exact .inr z
      · refine h2 x ?_
        rw [lookup_cons]
        by_cases hx : x = n
        · subst hx
          left
          simp
        · have hb : (x == n) = false := by simpa using hx
          rw [hb]
          rcases z with z | z
          · exact .inl z
          · rcases mem_cons.mp z with z | z
            · cases z
              exact absurd rfl hx
            · exact .inr z
    · obtain ⟨cl, e, h1, h2⟩ := ZeI env r acc fun y hy => h y (mem_cons_of_mem _ hy)
      refine ⟨cl, ?_, h1, fun x z => h2 x ?_⟩
      · rw [forIn_cons]
        have hb : (k == NameKind.free) = false := by simpa using hk
        simp only [hb, Bool.false_eq_true, if_false, pure_bind]
        exact e
      · rcases z with z | z
        · exact .inl z
        · rcases mem_cons.mp z with z | z
          · cases z
            exact absurd rfl hk
          · exact .inr z
theorem ZdU {scope:Scope} {env:Env} (h:∀ y∈scope.names,y.2=.free->∃ c,env.cells.lookup y.1=some c) :
  ∃ cl,closureFor scope env=pure cl/\(∀ x c,cl.lookup x=some c->env.cells.lookup x=some c)/\∀ x,(x,NameKind.free)∈scope.names->∃ c,cl.lookup x=some c:=by
 obtain ⟨cl,e,h1,h2⟩:=ZeI env scope.names [] h
 refine ⟨cl,?_,fun x c z=>(h1 x c z).elim (fun q=>by simp at q) id,fun x z=>Option.isSome_iff_exists.mp (h2 x (.inr z))⟩
 unfold closureFor
 dsimp only
 rw [e]
 rfl
structure BkScope (N:List Str) (sc osc:Scope) (LN FN:List Str) (fr:List Nat):Prop where
 kind:sc.kind=.function
 nocell:∀ y∈sc.names,y.2≠.cell
 names:∀ x∈sc.names,x.2=.local->sc.names.lookup x.1=some .local
 free:∀ y∈sc.names,y.2=.free->osc.names.lookup y.1=some .cell\/osc.names.lookup y.1=some .free
 fnk:∀ x∈FN,osc.names.lookup x=some .cell\/osc.names.lookup x=some .free
 fnf:∀ x∈FN,sc.names.lookup x=some .free
 at':FN.map some=fr.map fun j=>N[j]?
theorem BkScope.place {N : List Str} {sc osc : Scope} {LN FN : List Str} {fr : List Nat} (S : BkScope N sc osc LN FN fr) {k : Nat} {x : Str} (e : FN[k]? = some x) : ∃ j : Nat, fr[k]? = some j /\ N[j]? = some x := by
  have h := congrArg (fun l => l[k]?) S.at'
  simp only [getElem?_map, e, Option.map_some] at h
  cases q : fr[k]? with
  | none => rw [q] at h; cases h
  | some j =>
    rw [q] at h
    exact ⟨j, rfl, (Option.some.inj h).symm⟩
theorem BkScope.frl {N:List Str} {sc osc:Scope} {LN FN:List Str} {fr:List Nat} (S:BkScope N sc osc LN FN fr):fr.length=FN.length:=by
 have h:=congrArg List.length S.at'
 simpa using h.symm
noncomputable def Zd5 (LN:List Str) (fr:List Nat) (σ:St):St:=List.replicate LN.length none++fr.map fun j=>(σ[j]?).getD none
noncomputable def bkCx (X:Cx) (LN FN:List Str) (sc:Scope) (cl:List (Str×Addr)) (C:Addr) (fp:List Addr) (pins:List (Addr×Obj)) (s:Shared) (H:Hp):Cx :=
 { X with N:=LN++FN,s₀:=s,H₀:=H,env:=compEnvC sc cl C X.env,outer:=X.stack,ex:=fp,fn:=fun _=>false,pn:=X.pn++pins,xe:=fun _ _=>False }
theorem ZcV {env : Env} : ∀ {names : List (Str × NameKind)} {x : Str} {k : NameKind},
    (names.map fun (n, k) => if (k == NameKind.free && env.scope.kind == .function && env.kindOf n == some .cell) then (n, NameKind.cell) else (n, k)).lookup x = some k ->
    names.lookup x = some k \/ (names.lookup x = some .free /\ k = .cell)
  | [], _, _, h => by simp at h
  | (n, j) :: r, x, k, h => by
    have ih := @ZcV env r x k
    have h : List.lookup x ((if (j == NameKind.free && env.scope.kind == .function && env.kindOf n == some .cell) = true then (n, NameKind.cell) else (n, j)) :: _) = some k := h
    rw [lookup_cons]
    by_cases hc : (j == NameKind.free && env.scope.kind == .function && env.kindOf n == some .cell) = true
    · rw [if_pos hc, lookup_cons] at h
      cases hx : x == n with
      | true =>
        rw [hx] at h
        simp only [Bool.and_eq_true, beq_iff_eq] at hc
        have hk : NameKind.cell = k := by simpa using h
        exact .inr ⟨by simp [hc.1.1], hk.symm⟩
      | false =>
        rw [hx] at h
        exact ih h
    · rw [if_neg hc, lookup_cons] at h
      cases hx : x == n with
      | true =>
        rw [hx] at h
        exact .inl h
      | false =>
        rw [hx] at h
        exact ih h
theorem Zmk {X : Cx} {pins : List (Addr × Obj)} {σ : St} {H : Hp} {s : Shared} {LN FN : List Str} {fr : List Nat} {sc : Scope} {cl : List (Str × Addr)} {C : Addr} {fp : List Addr} {h' : Heap} {tk : Nat} {m : Str -> Option Value}
    (I : Inv X pins σ H s) (S : BkScope X.N sc X.env.scope LN FN fr) (hf : ∀ b ∈ fp, FpOk X pins H b) (hfs : ∀ b ∈ fp, ∃ o, s.heap.get? b = some o)
    (h1 : ∀ x c, cl.lookup x = some c -> X.env.cells.lookup x = some c) (h2 : ∀ x, (x, NameKind.free) ∈ sc.names -> ∃ c, cl.lookup x = some c)
    (hC : s.heap.objs.size <= C) (hk : ∀ b o, s.heap.get? b = some o -> h'.get? b = some o) (hn : h'.Ns C m) :
    Inv (bkCx X LN FN sc cl C fp pins s H) [] (Zd5 LN fr σ) H { s with heap := h', toks := tk } := by
  have hsub : ∀ b, b ∉ X.fs -> b ≠ X.env.locals -> b ∉ frs X.stack := fun b n1 n2 z => (mem_cons.mp (I.stkSub b z)).elim n2 n1
  have hlk : ∀ x k, (relabel sc X.env).names.lookup x = some k -> (k = .cell \/ k = .free) -> sc.names.lookup x = some .free := fun x k e hk => by
    rcases ZcV e with q | ⟨q, _⟩
    · rcases hk with rfl | rfl
      · exact absurd rfl (S.nocell _ (PySem.mem_of_lookup q))
      · exact q
    · exact q
  refine ⟨⟨I.ok.mod, ?_, I.ok.glob, I.ok.blt, hC, fun x y c e1 e2 => I.ok.inj x y c (h1 x c e1) (h1 y c e2), fun x hx => ?_, (fun x c z => absurd z (by intro z; cases z)), I.ok.hd, I.ok.frames, .inl rfl, fun b hb => ⟨?_, fun x c e z => ?_⟩, I.bs, Nat.le_trans I.ok.bsz I.sz, fun b o e hb => ?_, fun b hb => ?_, I.stack, I.stkFree⟩,
    rfl, I.bare, Un.kept hk, ⟨m, hn, fun i x v e1 e2 e3 => ?_⟩, fun x c e => ?_, ?_, fun x c e => I.freeC x c (h1 x c e), fun p hp => ?_, I.hok.kept hk, ?_⟩
  · exact S.kind
  · have hx : (relabel sc X.env).names.lookup x = some .cell \/ (relabel sc X.env).names.lookup x = some .free := hx
    rcases hx with hx | hx
    · exact h2 x (PySem.mem_of_lookup (hlk x _ hx (.inl rfl)))
    · exact h2 x (PySem.mem_of_lookup (hlk x _ hx (.inr rfl)))
  · obtain ⟨o, e⟩ := hfs b hb
    exact Nat.ne_of_lt (Nat.lt_of_lt_of_le (Heap.lt_size e) hC)
  · exact (hf b hb).2.2.2.2.1 x c (h1 x c e) z
  · obtain ⟨_, _, _, h3, _⟩ := hf b hb
    rcases h3 with z | z
    · exact I.ok.noex b o e z
    · exact absurd (Nat.lt_of_lt_of_le (Heap.lt_size (I.ok.bs b o e).1) z) (Nat.lt_irrefl _)
  · obtain ⟨_, n1, n2, _⟩ := hf b hb
    exact hsub b n2 n1
  · -- the free names' values
    have hi : LN.length <= i := by
      refine Nat.le_of_not_lt fun hlt => ?_
      unfold Zd5 at e2
      rw [getElem?_append_left (by simpa using hlt), getElem?_replicate] at e2
      split at e2 <;> cases e2
    have e1 : FN[i - LN.length]? = some x := by
      have e1 : (LN ++ FN)[i]? = some x := e1
      rwa [getElem?_append_right hi] at e1
    obtain ⟨j, ej, hj⟩ := S.place e1
    have e2 : (σ[j]?).getD none = some v := by
      unfold Zd5 at e2
      rw [getElem?_append_right (by simpa using hi), length_replicate, getElem?_map, ej] at e2
      simpa using e2
    have e2 : σ[j]? = some (some v) := by
      cases q : σ[j]? with
      | none => rw [q] at e2; cases e2
      | some z =>
        rw [q] at e2
        exact congrArg some e2
    have hkx := S.fnk x (mem_of_getElem? e1)
    obtain ⟨m0, hm0, hl⟩ := I.loc
    have hv : Vis X.env.scope x := hkx.elim (fun z => .inr (.inl z)) fun z => .inr (.inr z)
    obtain ⟨u, r, l⟩ := hl j x v hj e2 hv
    refine ⟨u, r, ?_⟩
    rcases l with ⟨k1, _⟩ | ⟨_, c, ec, z⟩
    · have k1 : X.env.scope.names.lookup x = some .local := k1
      rcases hkx with q | q <;> rw [q] at k1 <;> cases k1
    · have e3 : Vis (relabel sc X.env) x := e3
      rcases e3 with q | q | q
      · -- a block's own name is none of the free ones, unless it shadows: then the kinds say local
        rcases ZcV q with q' | ⟨_, q'⟩
        · rw [S.fnf x (mem_of_getElem? e1)] at q'
          cases q'
        · cases q'
      · obtain ⟨c', ec'⟩ := h2 x (PySem.mem_of_lookup (hlk x _ q (.inl rfl)))
        have := h1 x c' ec'
        rw [ec] at this; cases this
        exact .inr ⟨.inl q, c, ec', by obtain ⟨o, ho, hd⟩ := z; exact ⟨o, hk _ _ ho, hd⟩⟩
      · obtain ⟨c', ec'⟩ := h2 x (PySem.mem_of_lookup (hlk x _ q (.inr rfl)))
        have := h1 x c' ec'
        rw [ec] at this; cases this
        exact .inr ⟨.inr q, c, ec', by obtain ⟨o, ho, hd⟩ := z; exact ⟨o, hk _ _ ho, hd⟩⟩
  · obtain ⟨v, o, ho, hd⟩ := I.cell x c (h1 x c e)
    exact ⟨v, o, hk _ _ ho, hd⟩
  · exact I.hok.fresh hC
  · have hp : p ∈ (X.pn ++ pins) ++ [] := hp
    rw [append_nil] at hp
    obtain ⟨e, n, ne, nf, d⟩ := I.pin p hp
    exact ⟨hk _ _ e, n, Nat.ne_of_lt (Nat.lt_of_lt_of_le (Heap.lt_size e) hC), hsub _ nf ne, d⟩
  · unfold Zd5
    show _ = (LN ++ FN).length
    simp [S.frl]
end L2
end
section
namespace L2
open PySem PySem.Spec PyProof.Rows
noncomputable def PTs (X:Cx) (ifs:List Expr) (t:TT):Prop :=
 ∀ (pins:List (Addr×Obj)) (s:Shared) (σ:St) (H:Hp) (Q:Bool->Hp->Prop),Inv X pins σ H s->t σ H Q ->
  wpAny (model X.prog X.w) X.A (forIn ifs true fun c r=>if r=true then do let ok <- isTrue c X.env (eval c X.env);pure (ForInStep.yield ok) else pure (ForInStep.yield r)) (TP X pins σ Q) X.xe s
noncomputable def tTrue:TT:=fun _ H Q=>Q true H
theorem ZbY {X:Cx}:PTs X [] tTrue:=fun _ _ _ H _ I h=>wpAny_tests_nil ⟨H,I,h⟩
theorem ZhI {X:Cx} {c:Expr} {t:TT} (h:PT X c t):PTs X [c] t:=fun pins s σ H Q I q=>wpAny_tests_one (h pins s σ H Q I q)
theorem Un.track {fs ex:List Addr} {H H1:Hp} {h h1:Heap} {a:Addr} {o:HO} (u:Un fs ex H H1 h h1) (hp:h.objs.size<=a) (hn:H a=none):Un fs ex H (upd H1 a o) h h1 where
 keep:=u.keep
 slot:=u.slot
 free:=fun b ob q n hx=>by
  rw [Zat (Nat.ne_of_lt (Nat.lt_of_lt_of_le (Heap.lt_size q) hp))]
  exact u.free b ob q n hx
 there:=u.there
 tups:=fun b xs q=>by
  rw [Zat (fun z=>by rw [z,hn] at q;cases q)]
  exact u.tups b xs q
 frzs:=fun b ob x q=>by
  rw [Zat (fun z=>by rw [z,hn] at q;cases q)]
  exact u.frzs b ob x q
 tbls:=fun b ps q=>by
  rw [Zat (fun z=>by rw [z,hn] at q;cases q)]
  exact u.tbls b ps q
theorem HOk.track {P:Program} {w:World} {H:Hp} {h:Heap} {a:Addr} {o:HO} (x:HOk P w H h) (hn:H a=none) (new:ObjOk P w (upd H a o) h a o):HOk P w (upd H a o) h:=fun b u e=>by
 by_cases hb:b=a
 ·subst hb
  rw [Zad] at e
  cases e
  exact new
 ·rw [Zat hb] at e
  refine (x b u e).stay (fun _ _ _ q=>q) (fun c q=>?_) fun c xs q=>?_
  ·rw [Zat (fun z=>by rw [z,hn] at q;cases q)]
   exact q
  ·rw [Zat (fun z=>by rw [z,hn] at q;cases q)]
   exact q
theorem Zi6 {EB : Value -> Shared -> Prop} {prog : Program} {w : World} {A : Around} {R : Result -> Shared -> Prop} {s : Shared} {elt target iter : Expr} {ifs : List Expr} {scope : Scope} {pos : Pos} {it acc : Value} {env : Env} (I : Nat -> Shared -> Prop)
    (turn : ∀ n s, I n s -> wpAny (model prog w) A (pyNext it) (fun r s₁ => match r with
      | none => R (.ok .next) s₁
      | some v => wpAny (model prog w) A (letOwnedTupleGo target it v) (fun _ s₁' => wpAny (model prog w) A (assign target env v) (fun _ s₂ =>
          wpAny (model prog w) A (forIn ifs true fun c r => if r = true then do let ok <- isTrue c env (eval c env); pure (ForInStep.yield ok) else pure (ForInStep.yield r)) (fun ok s₃ =>
            if ok = true then wpAny (model prog w) A (eval elt env) (fun x s₄ =>
              wpAny (model prog w) A (call (.builtin "list.append") [acc, x]) (fun _ s₅ => ∃ m, m < n /\ I m s₅) (fun _ _ => False) s₄) EB s₃
            else ∃ m, m < n /\ I m s₃) (fun _ _ => False) s₂) (fun _ _ => False) s₁') (fun _ _ => False) s₁) (fun _ _ => False) s)
    (hEB : ∀ e s', EB e s' -> notedBy (model prog w) A env (fun e s' => R (.error e) s') e s') (n : Nat) (h : I n s) :
    codeAny (model prog w) A (.compLoop (.ListComp elt [⟨target, iter, ifs, 0⟩] scope pos) 0 it acc env) R s := by
  refine codeAny_loop rfl I (fun n s hI => ?_) n h
  show wpAny _ A ((compTurn (.ListComp elt [⟨target, iter, ifs, 0⟩] scope pos) 0 it acc env).onRaise (fun x => do noteFrame x env; theTreesLotGoes x)) _ _ s
  refine wpAny_noted ?_
  rw [compTurn_list]
  refine wpAny_bind (wpAny_standAt (wpAny_bind (wpAny_mono (turn n s hI) (fun r s₁ h₁ => ?_) fun _ _ h' => h'.elim)))
  cases r with
  | none => exact wpAny_pure h₁
  | some v =>
    refine wpAny_bind (wpAny_mono h₁ (fun _ s₁' h₁' => ?_) fun _ _ h' => h'.elim)
    refine wpAny_bind (wpAny_mono h₁' (fun _ s₂ h₂ => wpAny_bind (wpAny_mono h₂ (fun ok s₃ h₃ => ?_) fun _ _ h' => h'.elim)) fun _ _ h' => h'.elim)
    cases ok with
    | false => exact wpAny_pure ⟨rfl, h₃⟩
    | true =>
      exact wpAny_bind (wpAny_bind (wpAny_mono h₃ (fun x s₄ h₄ => wpAny_bind (wpAny_mono h₄ (fun _ s₅ h₅ => wpAny_pure (wpAny_pure ⟨rfl, h₅⟩)) fun _ _ h' => h'.elim)) fun e s' h' => hEB e s' h'))
noncomputable def Zla (X:Cx) (C:Addr) (e:Value) (s':Shared):Prop:=∃ m,s'.heap.Ns C m/\∀ h',Heap.SameBut C s'.heap h'->∀ cenv:Env,cenv.locals=C->wpAny (model X.prog X.w) X.A (PySem.passOn "comprehension.variables-let-go" e cenv:Sem Value) (fun _ _=>False) X.xe { s' with heap:=h' }
noncomputable def bkXe (X:Cx) (sc:Scope) (cl:List (Str×Addr)) (C:Addr):Value->Shared->Prop:=notedBy (model X.prog X.w) X.A (compEnvC sc cl C X.env) (Zla X C)
noncomputable def BkIn (X:Cx) (C:Addr) (fp:List Addr) (pins:List (Addr×Obj)) (s:Shared) (H:Hp):Prop:=(∃ σ,Inv X pins σ H s)/\(∀ b∈fp,FpOk X pins H b)/\s.heap.objs.size<=C
noncomputable def bkX (X:Cx) (LN FN:List Str) (sc:Scope) (cl:List (Str×Addr)) (C:Addr) (fp:List Addr) (pins:List (Addr×Obj)) (s:Shared) (H:Hp):Cx:=(bkCx X LN FN sc cl C fp pins s H).wish (bkXe X sc cl C)
section
variable {X:Cx} {tg elt iter:Expr} {ifs:List Expr} {sc:Scope} {pos:Pos} {LN FN:List Str} {fr:List Nat} {wi:TI} {g:TG} {tt:TT} {te:TE}
noncomputable def CW (J:It) (g:TG) (tt:TT) (te:TE) (W:Nat->Nat->List V->St->Hp->Prop) (Q:VK):Prop :=
 ∀ i m ys σ H,W i m ys σ H ->
  (J.stop i H/\ys.length<=sizeLine/\∀ p,H p=none->Q (.ref p) (upd H p (.lst ys))) \/
  (J.go i H/\∃ N:List V->St->Hp->Prop,(∀ ys' σ' H',N ys' σ' H'->∃ m',m' < m/\W (i+1) m' ys' σ' H') /\
   ∀ x H2,J.yld i H x H2->g x σ H2 fun σ2 H3=>tt σ2 H3 fun ok H4=>if ok=true then te σ2 H4 fun y H5=>ys.length < sizeLine/\N (ys++[y]) σ2 H5 else N ys σ2 H4)
noncomputable def Zjk (LN:List Str) (fr:List Nat) (wi:TI) (g:TG) (tt:TT) (te:TE):TE:=fun σ H Q=>wi σ H fun J H1 =>
 ∃ W:Nat->Nat->List V->St->Hp->Prop,(∃ m,W 0 m [] (Zd5 LN fr σ) H1)/\CW J g tt te W Q
theorem ZgS {pins : List (Addr × Obj)} {σ : St} {H2 : Hp} {s2 : Shared} {it : Addr} {fp : List Addr} {tn : Nat -> Heap -> Prop} {J : It} {cl : List (Str × Addr)} {W : Nat -> Nat -> List V -> St -> Hp -> Prop} {Q : VK} {m0 : Nat}
    {R : Value -> Addr -> Result -> Shared -> Prop} {E : Value -> Shared -> Prop}
    (hc : X.calm = true) (S : BkScope X.N sc X.env.scope LN FN fr)
    (hg : ∀ cl C fp pins s H, PG (bkCx X LN FN sc cl C fp pins s H) tg g) (ht : ∀ cl C fp pins s H, PTs (bkCx X LN FN sc cl C fp pins s H) ifs tt) (he : ∀ cl C fp pins s H, BkIn X C fp pins s H -> PE (bkX X LN FN sc cl C fp pins s H) elt te)
    (h1 : ∀ x c, cl.lookup x = some c -> X.env.cells.lookup x = some c) (h2 : ∀ x, (x, NameKind.free) ∈ sc.names -> ∃ c, cl.lookup x = some c)
    (I2 : Inv X pins σ H2 s2) (T : Turn X.prog X.w X.K tg J fp it tn) (st2 : tn 0 s2.heap) (f2 : ∀ b ∈ fp, FpOk X pins H2 b) (w0 : W 0 m0 [] (Zd5 LN fr σ) H2) (turn : CW J g tt te W Q)
    (hR : ∀ D C s' H' ys m, s'.heap.Ns C m -> Inv X pins σ (upd H' D (.lst ys)) s' -> FpOk X pins (upd H' D (.lst ys)) C -> Q (.ref D) (upd H' D (.lst ys)) -> R (.ref D) C (.ok .next) s') (hRE : ∀ D C e s', Zla X C e s' -> R (.ref D) C (.error e) s') :
    wpAny (model X.prog X.w) X.A (newList []) (fun acc s₃ => wpAny (model X.prog X.w) X.A (newFunctionEnv sc X.env.globals cl [] X.env.qual none .none (some X.env)) (fun cenv s₄ =>
      codeAny (model X.prog X.w) X.A (.compStart (.ListComp elt [⟨tg, iter, ifs, 0⟩] sc pos) 0 (.ref it) acc { cenv with scope := relabel sc X.env }) (R acc cenv.locals) s₄) E s₃) E s2 := by
  refine wpAny_newObj_type (wpAny_newFunctionEnv S.nocell (by intro y hy; simp at hy) (fun h₁ hns hsb => ?_) S.kind)
  dsimp only at hns hsb ⊢
  generalize hH2 : s2.heap.push { cls := .type "list", dict := none, data := .seq ([] : List Value).toArray } = G at hns hsb ⊢
  have hC : G.objs.size = s2.heap.objs.size + 1 := by rw [<- hH2, Heap.size_push]
  have hDC : s2.heap.objs.size ≠ G.objs.size := by rw [hC]; exact Nat.ne_of_lt (Nat.lt_succ_self _)
  have hCle : s2.heap.objs.size <= G.objs.size := by rw [hC]; exact Nat.le_succ _
  have old : ∀ b o, s2.heap.get? b = some o -> h₁.get? b = some o := fun b o e =>
    hsb.extBut b o (by rw [hC]; exact Nat.ne_of_lt (Nat.lt_succ_of_lt (Heap.lt_size e))) (Heap.get?_push_of_some _ (hH2 ▸ Heap.get?_push_of_some _ e))
  have hacc : h₁.PlainList s2.heap.objs.size #[] := ⟨_, hsb.extBut _ _ hDC (Heap.get?_push_of_some _ (hH2 ▸ Heap.get?_push_size _ rfl))⟩
  have hfs : ∀ b ∈ fp, ∃ o, s2.heap.get? b = some o := fun b hb => let ⟨o, e, _⟩ := T.obj 0 _ st2 b hb; ⟨o, e⟩
  have hflt : ∀ b ∈ fp, b < s2.heap.objs.size := fun b hb => let ⟨o, e⟩ := hfs b hb; Heap.lt_size e
  generalize hD : s2.heap.objs.size = D at *
  generalize hCC : G.objs.size = C at *
  have I0 := Zmk (LN := LN) (cl := cl) (C := C) (tk := s2.toks + ([] : List (Str × Value)).length) I2 S f2 hfs h1 h2 (by rw [hD]; exact hCle) old hns
  have hin : BkIn X C fp pins s2 H2 := ⟨⟨σ, I2⟩, f2, by rw [hD]; exact hCle⟩
  have fD : FpOk X pins H2 D := I2.fpOk (Nat.le_of_eq hD) (I2.hok.fresh (Nat.le_of_eq hD))
  have stD : ∀ {pl : List (Addr × Obj)} {H' : Hp}, H' D = none -> (∀ p ∈ pl, p.1 ≠ D) -> FpOk (bkCx X LN FN sc cl C fp pins s2 H2) pl H' D := fun {pl H'} hn hp => by
    refine ⟨hn, hDC, fun z => ?_, .inr (Nat.le_of_eq hD), fun x c e => fD.2.2.2.2.1 x c (h1 x c e), fun p hp' => ?_⟩
    · exact (mem_cons.mp (I2.stkSub D z)).elim fD.2.1 fD.2.2.1
    · have hp' : p ∈ (X.pn ++ pins) ++ pl := hp'
      rcases mem_append.mp hp' with q | q
      · exact fD.2.2.2.2.2 p q
      · exact hp p q
  have stat : ∀ {pl : List (Addr × Obj)} {H' : Hp}, (∀ b ∈ fp, H' b = none) -> (∀ p ∈ pl, p.1 = D) -> ∀ b ∈ fp, FpOk (bkCx X LN FN sc cl C fp pins s2 H2) pl H' b := fun {pl H'} hn hp b hb => by
    obtain ⟨_, n1, n2, n3, n4, n5⟩ := f2 b hb
    refine ⟨hn b hb, Nat.ne_of_lt (Nat.lt_of_lt_of_le (hflt b hb) hCle), fun z => ?_, .inl hb, fun x c e => n4 x c (h1 x c e), fun p hp' => ?_⟩
    · exact (mem_cons.mp (I2.stkSub b z)).elim n1 n2
    · have hp' : p ∈ (X.pn ++ pins) ++ pl := hp'
      rcases mem_append.mp hp' with q | q
      · exact n5 p q
      · rw [hp p q]
        exact Nat.ne_of_gt (hflt b hb)
  have pinD : ∀ {s' : Shared}, ∀ p ∈ Zcz [D] s'.heap, p.1 = D := fun p hp => by simpa using (Zg6 hp).1
  have key : ∀ s₄ : Shared, s₄ = { s2 with heap := h₁, toks := s2.toks + ([] : List (Str × Value)).length } ->
      codeAny (model X.prog X.w) X.A (.compLoop (.ListComp elt [⟨tg, iter, ifs, 0⟩] sc pos) 0 (.ref it) (.ref D) (compEnvC sc cl C X.env)) (R (.ref D) C) s₄ := by
    rintro s₄ rfl
    refine Zi6 (EB := bkXe X sc cl C) (fun n s' => ∃ i ys σ' H' its, Inv (bkCx X LN FN sc cl C fp pins s2 H2) [] σ' H' s' /\ tn i s'.heap /\ (∀ b ∈ fp, H' b = none) /\ W i n ys σ' H' /\ Vals ys its /\ s'.heap.PlainList D its.toArray /\ H' D = none) ?_ (fun e s' h' => wpAny_mono h' (fun _ s'' q => hRE D C e s'' q) fun e' s'' q => hRE D C e' s'' q) m0
      ⟨0, [], _, H2, [], I0, T.keep _ _ _ st2 (fun b _ o e => old b o e), fun b hb => (f2 b hb).1, w0, .nil, hacc, fD.1⟩
    rintro n s3 hh
    refine opq ?_
    intro gg
    obtain ⟨i, ys, σ3, H3, its, I3, st3, fr3, w3, rv, pl, nD⟩ := hh
    have plo : ∃ o, s3.heap.get? D = some o /\ ∀ v, o.data ≠ .cell v := by
      obtain ⟨k, e⟩ := pl
      exact ⟨_, e, fun v z => by cases z⟩
    have I3' : Inv (bkCx X LN FN sc cl C fp pins s2 H2) ([] ++ Zcz [D] s3.heap) σ3 H3 s3 := I3.pinned (fp := [D]) (fun b hb => by
      obtain rfl : b = D := by simpa using hb
      exact stD nD (fun _ z => nomatch z)) (fun b hb => by
      obtain rfl : b = D := by simpa using hb
      exact plo)
    have I3' : Inv (bkCx X LN FN sc cl C fp pins s2 H2) (Zcz [D] s3.heap) σ3 H3 s3 := I3'
    have keepD : ∀ {pl' : List (Addr × Obj)} {σ' : St} {H' : Hp} {s' : Shared}, Inv (bkCx X LN FN sc cl C fp pins s2 H2) (Zcz [D] s3.heap ++ pl') σ' H' s' -> s'.heap.PlainList D its.toArray /\ H' D = none := fun {pl' σ' H' s'} J => by
      obtain ⟨k, e⟩ := pl
      have := J.pin (D, _) (mem_append_right _ (mem_append_left _ (Zc4 (by simp) e)))
      exact ⟨⟨k, this.1⟩, this.2.1⟩
    have keepD0 : ∀ {σ' : St} {H' : Hp} {s' : Shared}, Inv (bkCx X LN FN sc cl C fp pins s2 H2) (Zcz [D] s3.heap) σ' H' s' -> s'.heap.PlainList D its.toArray /\ H' D = none := fun {σ' H' s'} J => by
      refine keepD (pl' := []) (σ' := σ') ?_
      rw [append_nil]
      exact J
    rcases turn i n ys σ3 H3 w3 with ⟨stop, hlen, q⟩ | ⟨go, N, hN, step⟩
    · refine thn (T.done (bkCx X LN FN sc cl C fp pins s2 H2) rfl rfl rfl hc i (Zcz [D] s3.heap) s3 σ3 H3 _ I3' (stat fr3 (fun p hp => pinD (s' := s3) p hp)) st3 stop) fun r s4 hh1 => ?_
      refine opq ?_
      intro gg1
      obtain ⟨hr, I4⟩ := hh1
      subst hr
      obtain ⟨pl4, n4⟩ := keepD0 I4
      have u4 : Un (frs X.stack) fp H2 (upd H3 D (.lst ys)) s2.heap s4.heap := Un.track I4.base (Nat.le_of_eq hD) fD.1
      have nC : H3 C = none := I4.free
      have o4 : HOk X.prog X.w (upd H3 D (.lst ys)) s4.heap := HOk.track I4.hok n4 (by
        obtain ⟨k, e⟩ := pl4
        exact ⟨hlen, its, k, rv, e⟩)
      have J : Inv X pins σ (upd H3 D (.lst ys)) s4 := I2.call' (s' := s4) (ch := fp) I4.os u4 o4 I4.bare fun b hb => by
        obtain ⟨_, n1, n2, n3, n4, n5⟩ := f2 b hb
        exact ⟨n3, n1, n4, n5⟩
      obtain ⟨m, hm, _⟩ := I4.loc
      exact hR D C s4 H3 ys m hm J (I2.fpOk (by rw [hD]; exact hCle) (by rw [Zat (Ne.symm hDC)]; exact nC)) (q D n4)
    · refine thn (T.item (bkCx X LN FN sc cl C fp pins s2 H2) rfl rfl rfl hc i (Zcz [D] s3.heap) s3 σ3 H3 _ I3' (stat fr3 (fun p hp => pinD (s' := s3) p hp)) st3 go) fun r s4 hh2 => ?_
      refine opq ?_
      intro gg2
      obtain ⟨u, hr, h4⟩ := hh2
      subst hr
      refine thn h4 fun _ s5 hh3 => ?_
      refine opq ?_
      intro gg3
      obtain ⟨x, H5, I5, r5, y5, st5, fr5⟩ := hh3
      have I5' := I5.pinned (stat fr5 (fun p hp => pinD (s' := s3) p hp)) (T.obj _ _ st5)
      refine thn (hg cl C fp pins s2 H2 _ s5 σ3 H5 x u _ I5' r5 (step x H5 y5)) fun _ s6 hh4 => ?_
      refine opq ?_
      intro gg4
      obtain ⟨σ6, H6, I6, q6⟩ := hh4
      refine thn (ht cl C fp pins s2 H2 _ s6 σ6 H6 _ I6 q6) fun ok s7 hh5 => ?_
      obtain ⟨H7, I7, q7⟩ := hh5
      have again : ∀ {s' : Shared} {H' : Hp}, Inv (bkCx X LN FN sc cl C fp pins s2 H2) (Zcz [D] s3.heap ++ Zcz fp s5.heap) σ6 H' s' -> tn (i + 1) s'.heap /\ ∀ b ∈ fp, H' b = none := fun {s' H'} J => by
        refine ⟨T.keep _ _ _ st5 fun b hb o e => (J.pin (b, o) (mem_append_right _ (mem_append_right _ (Zc4 hb e)))).1, fun b hb => ?_⟩
        obtain ⟨o, e, d⟩ := T.obj _ _ st5 b hb
        exact (J.pin (b, o) (mem_append_right _ (mem_append_right _ (Zc4 hb e)))).2.1
      have bare : ∀ {s' : Shared} {H' : Hp}, Inv (bkCx X LN FN sc cl C fp pins s2 H2) (Zcz [D] s3.heap ++ Zcz fp s5.heap) σ6 H' s' -> Inv (bkCx X LN FN sc cl C fp pins s2 H2) [] σ6 H' s' := fun J => J.pins_of fun p hp => nomatch hp
      cases ok with
      | false =>
        rw [if_neg Bool.false_ne_true] at q7 ⊢
        obtain ⟨m', hm, w7⟩ := hN ys σ6 H7 q7
        obtain ⟨pl7, n7⟩ := keepD I7
        exact ⟨m', hm, i + 1, ys, σ6, H7, its, bare I7, (again I7).1, (again I7).2, w7, rv, pl7, n7⟩
      | true =>
        rw [if_pos rfl] at q7 ⊢
        refine wpAny_mono (he cl C fp pins s2 H2 hin _ s7 σ6 H7 _ (I7.wish _) q7) (fun v s8 hz8 => ?_) fun _ _ z => z
        obtain ⟨y, H8, I8, r8, hl8, q8⟩ := hz8
        have I8 := I8.unwish
        obtain ⟨m', hm, w8⟩ := hN _ σ6 H8 q8
        obtain ⟨pl8, n8⟩ := keepD I8
        obtain ⟨t8, f8⟩ := again I8
        have hsz : its.toArray.size <= sizeLine := by
          have := rv.length
          rw [size_toArray, <- this]
          exact Nat.le_of_lt hl8
        refine wpAny_list_append_plain pl8 (fun h' pl' sb => ?_) hsz
        refine ⟨m', hm, i + 1, ys ++ [y], σ6, H8, its ++ [v], ?_, ?_, f8, w8, rv.append (.cons r8 .nil), ?_, n8⟩
        · obtain ⟨d0, d1, d2, d3, d4, d5⟩ := stD (pl := []) n8 (fun _ z => nomatch z)
          exact (bare I8).turned (t' := s8.toks) (fun b o hb e => (sb.2 b hb).trans e) d0 d1 d3 d4 d5
        · exact T.keep _ _ _ t8 fun b hb o e => (sb.2 b (Nat.ne_of_lt (hflt b hb))).trans e
        · simpa using pl'
  exact codeAny_compStart_list (key _ rfl) (T.self _ 0 _ _ _ (T.keep _ _ _ st2 fun b _ o e => old b o e) (key _ rfl))
theorem PE.any {E:Value->Shared->Prop} {e:Expr} {t:TE} (h:PE X e t) (hx:X.xe=fun _ _=>False):PE (X.wish E) e t:=by
 intro pins s σ H Q I q
 refine wpAny_mono (h pins s σ H Q I.unwish q) (fun v s1 h1=>?_) (fun _ _ z=>by rw [hx] at z;exact z.elim)
 obtain ⟨y,H1,I1,r1,q1⟩:=h1
 exact ⟨y,H1,I1.wish E,r1,q1⟩
theorem ZdH (hc:X.calm=true) (S:BkScope X.N sc X.env.scope LN FN fr) (hi:PI X tg iter wi)
  (hg:∀ cl C fp pins s H,PG (bkCx X LN FN sc cl C fp pins s H) tg g) (ht:∀ cl C fp pins s H,PTs (bkCx X LN FN sc cl C fp pins s H) ifs tt) (he:∀ cl C fp pins s H,PE (bkCx X LN FN sc cl C fp pins s H) elt te)
  (hs:∀ x,foldedSetIterable iter X.env x=pure x:=by intro _;rfl):PE X (.ListComp elt [⟨tg,iter,ifs,0⟩] sc pos) (Zjk LN fr wi g tt te):=by
 intro pins s σ H Q I h
 rw [eval_ListComp]
 obtain ⟨cl,ecl,h1,h2⟩:=ZdU (scope:=sc) (env:=X.env) fun y hy hk=>I.ok.has y.1 (S.free y hy hk)
 refine wpAny_comprehension_free (use:=none) rfl hs ecl S.kind S.names (thn (hi pins s σ H _ I h) fun v s1 q1=>thn q1 fun itv s2 q2=>?_)
 obtain ⟨it,fp,tn,J,H2,e,I2,T,st2,f2,W,⟨m0,w0⟩,turn⟩:=q2
 subst e
 refine ZgS (R:=fun acc C=>compPost (model X.prog X.w) X.A X.xe none (EP X pins σ Q) acc C) hc S hg ht (fun cl C fp pins s H _=>(he cl C fp pins s H).any rfl) h1 h2 I2 T st2 f2 w0 turn (fun D C s' H' ys m hn J fC q=>?_) (fun _ _ _ _ z=>z)
 refine ⟨m,hn,fun h' sb=>⟨.ref D,_,J.turned (t':=s'.toks) (fun b o hb e=>(sb.2 b hb).trans e) fC.1 fC.2.1 fC.2.2.2.1 fC.2.2.2.2.1 fC.2.2.2.2.2,rfl,q⟩⟩
theorem ZhJ {i:Nat} {x:Str} {pos' pos2:Pos} (hc:X.calm=true) (hN:X.N.Nodup) (hix:X.N[i]?=some x) (hx:X.env.scope.names.lookup x=some .local) (S:BkScope X.N sc X.env.scope LN FN fr) (hi:PI X tg iter wi)
  (hg:∀ cl C fp pins s H,PG (bkCx X LN FN sc cl C fp pins s H) tg g) (ht:∀ cl C fp pins s H,PTs (bkCx X LN FN sc cl C fp pins s H) ifs tt) (he:∀ cl C fp pins s H,PE (bkCx X LN FN sc cl C fp pins s H) elt te)
  (hsw:swapsWith (.ListComp elt [⟨tg,iter,ifs,0⟩] sc pos) (some (.Name x pos')) pos2.line X.env=pure true:=by rfl)
  (hs:∀ x,foldedSetIterable iter X.env x=pure x:=by intro _;rfl):PS X (.Assign [.Name x pos'] (.ListComp elt [⟨tg,iter,ifs,0⟩] sc pos) pos2) (tAsg (Zjk LN fr wi g tt te) (Zd2 i)):=by
 intro pins s σ H D0 I h
 rw [exec_Assign_Name_used _ _ _ _ hsw]
 refine wpAny_bind (wpAny_standAt (wpAny_bind ?_))
 show wpAny _ X.A (do let _ <- comprehension (.ListComp elt [⟨tg,iter,ifs,0⟩] sc pos) sc X.env _ (newList []) false (eval iter X.env) (some (assign (.Name x pos') X.env))) _ _ s
 obtain ⟨cl,ecl,h1,h2⟩:=ZdU (scope:=sc) (env:=X.env) fun y hy hk=>I.ok.has y.1 (S.free y hy hk)
 refine wpAny_bind (wpAny_mono (wpAny_comprehension_free (use:=some (assign (.Name x pos') X.env)) (Q:=fun _ s'=>SP X pins D0 .next s') rfl hs ecl S.kind S.names (thn (hi pins s σ H _ I h) fun v s1 q1=>thn q1 fun itv s2 q2=>?_))
  (fun _ s' hq=>wpAny_pure (wpAny_pure hq)) fun _ _ e=>e)
 obtain ⟨it,fp,tn,J,H2,e,I2,T,st2,f2,W,⟨m0,w0⟩,turn⟩:=q2
 subst e
 refine ZgS (R:=fun acc C=>compPost (model X.prog X.w) X.A X.xe (some (assign (.Name x pos') X.env)) (fun _ s'=>SP X pins D0 .next s') acc C) hc S hg ht (fun cl C fp pins s H _=>(he cl C fp pins s H).any rfl) h1 h2 I2 T st2 f2 w0 turn (fun D C s' H' ys m hn J fC q=>?_) (fun _ _ _ _ z=>z)
 show wpAny _ X.A (assign (.Name x pos') X.env (.ref D)) _ _ s'
 refine wpAny_assign_Name (Zfe J hN hix (.inl hx) (show RelV (.ref D) (.ref D) from rfl) (fun s'' J2 ⟨a,sb2,ha⟩=>?_) (.inr hx))
 have nCa:C≠a:=by
  rcases ha with z|z
  ·rw [z];exact fC.2.1
  ·exact fun q=>fC.2.2.2.2.1 x a z q.symm
 refine ⟨m,hn.sameBut sb2 nCa,fun h' sb=>⟨_,_,J2.turned (t':=s''.toks) (fun b o hb e=>(sb.2 b hb).trans e) fC.1 fC.2.1 fC.2.2.2.1 fC.2.2.2.2.1 fC.2.2.2.2.2,q⟩⟩
end
end L2
end
section
namespace L2
open PySem PySem.Spec PyProof.Rows
inductive D where
 | non|bl (b:Bool)|int (i:Int)|str (x:Str)|tup (ds:List D)
mutual
noncomputable def Rep (H:Hp):D->V->Prop
 | .non,v=>v=.non
 | .bl b,v=>v=.bl b
 | .int i,v=>v=.int i
 | .str x,v=>v=.str x
 | .tup ds,v=>∃ a xs,v=.ref a/\H a=some (.tup xs)/\Reps H ds xs
noncomputable def Reps (H:Hp):List D->List V->Prop
 | [],vs=>vs=[]
 | d::ds,vs=>∃ v r,vs=v::r/\Rep H d v/\Reps H ds r
end
noncomputable def TSame (H H':Hp):Prop:=∀ a xs,H a=some (.tup xs)->H' a=some (.tup xs)
theorem TSame.trans {H H1 H2:Hp} (a:TSame H H1) (b:TSame H1 H2):TSame H H2:=fun c o h=>b c o (a c o h)
theorem Same.ts {H H':Hp} (h:Same H H'):TSame H H':=fun a xs e=>h a _ e
theorem Same.new {H:Hp} {a:Addr} {o:HO} (h:H a=none):Same H (upd H a o):=fun b u e=>by rw [Zat (Zbx e h)];exact e
theorem TSame.wr {H:Hp} {a:Addr} {o:HO} (h:∀ xs,H a≠some (.tup xs)):TSame H (upd H a o):=fun b xs e=>by
 rw [Zat (fun z=>by subst z;exact h xs e)]
 exact e
mutual
theorem Rep.mono {H H' : Hp} (t : TSame H H') : ∀ {d : D} {v : V}, Rep H d v -> Rep H' d v
  | .non, _, h => by simpa [Rep] using h
  | .bl _, _, h => by simpa [Rep] using h
  | .int _, _, h => by simpa [Rep] using h
  | .str _, _, h => by simpa [Rep] using h
  | .tup ds, v, h => by
    rw [Rep] at h ⊢
    obtain ⟨a, xs, e, ha, r⟩ := h
    exact ⟨a, xs, e, t a xs ha, Reps.mono t r⟩
theorem Reps.mono {H H' : Hp} (t : TSame H H') : ∀ {ds : List D} {vs : List V}, Reps H ds vs -> Reps H' ds vs
  | [], _, h => by simpa [Reps] using h
  | d :: ds, vs, h => by
    rw [Reps] at h ⊢
    obtain ⟨v, r, e, h1, h2⟩ := h
    exact ⟨v, r, e, Rep.mono t h1, Reps.mono t h2⟩
end
theorem Za9 {H:Hp} {i:Int}:Rep H (.int i) (.int i):=by rw [Rep]
theorem ZaZ {H:Hp} {a:Addr} {xs:List V} {ds:List D} (h:H a=some (.tup xs)) (r:Reps H ds xs):Rep H (.tup ds) (.ref a):=by rw [Rep];exact ⟨a,xs,rfl,h,r⟩
theorem Zaq {H:Hp}:Reps H [] []:=by rw [Reps]
theorem Zai {H:Hp} {d:D} {ds:List D} {v:V} {vs:List V} (h:Rep H d v) (r:Reps H ds vs):Reps H (d::ds) (v::vs):=by rw [Reps];exact ⟨v,vs,rfl,h,r⟩
theorem Zbq {H:Hp} {i:Int} {v:V} (h:Rep H (.int i) v):v=.int i:=by rwa [Rep] at h
theorem ZaW {H:Hp} {v:V} {ds:List D} (h:Rep H (.tup ds) v):∃ a xs,v=.ref a/\H a=some (.tup xs)/\Reps H ds xs:=by rwa [Rep] at h
theorem ZbD {H:Hp} {vs:List V} (h:Reps H [] vs):vs=[]:=by rwa [Reps] at h
theorem ZaJ {H:Hp} {d:D} {ds:List D} {vs:List V} (h:Reps H (d::ds) vs):∃ v r,vs=v::r/\Rep H d v/\Reps H ds r:=by rwa [Reps] at h
theorem Reps.length {H : Hp} : ∀ {ds : List D} {vs : List V}, Reps H ds vs -> ds.length = vs.length
  | [], vs, h => by rw [ZbD h]; rfl
  | d :: ds, vs, h => by
    obtain ⟨v, r, rfl, _, h2⟩ := ZaJ h
    simp [Reps.length h2]
theorem Reps.get {H : Hp} : ∀ {ds : List D} {vs : List V} {i : Nat} {d : D}, Reps H ds vs -> ds[i]? = some d -> ∃ v, vs[i]? = some v /\ Rep H d v
  | [], vs, i, d, h, e => by simp at e
  | d :: ds, vs, 0, d', h, e => by
    obtain ⟨v, r, rfl, h1, h2⟩ := ZaJ h
    simp at e; subst e
    exact ⟨v, rfl, h1⟩
  | d :: ds, vs, i + 1, d', h, e => by
    obtain ⟨v, r, rfl, h1, h2⟩ := ZaJ h
    obtain ⟨u, e1, e2⟩ := Reps.get (i := i) (d := d') h2 (by simpa using e)
    exact ⟨u, by simpa using e1, e2⟩
theorem Reps.get' {H:Hp} {ds:List D} {vs:List V} {i:Nat} {v:V} (h:Reps H ds vs) (e:vs[i]?=some v):∃ d,ds[i]?=some d/\Rep H d v:=by
 have hl:=h.length
 have hi:i < vs.length:=(List.getElem?_eq_some_iff.mp e).1
 obtain ⟨u,e1,e2⟩:=h.get (i:=i) (d:=ds[i]'(by lia)) (getElem?_eq_getElem (by lia))
 rw [e] at e1;cases e1
 exact ⟨_,getElem?_eq_getElem (by lia),e2⟩
theorem Reps.append {H : Hp} : ∀ {ds es : List D} {vs ws : List V}, Reps H ds vs -> Reps H es ws -> Reps H (ds ++ es) (vs ++ ws)
  | [], es, vs, ws, h, r => by rw [ZbD h]; exact r
  | d :: ds, es, vs, ws, h, r => by
    obtain ⟨v, q, rfl, h1, h2⟩ := ZaJ h
    exact Zai h1 (Reps.append h2 r)
theorem Zed {H : Hp} : ∀ {ns : List Int} {vs : List V}, Reps H (ns.map D.int) vs -> vs = ns.map V.int
  | [], vs, h => ZbD h
  | n :: ns, vs, h => by
    obtain ⟨v, r, rfl, h1, h2⟩ := ZaJ h
    rw [Zbq h1, Zed h2]
    rfl
mutual
noncomputable def D.pl:D->Bool
 | .bl _=>false
 | .tup ds=>D.pls ds
 | _=>true
noncomputable def D.pls:List D->Bool
 | []=>true
 | d::ds=>d.pl && D.pls ds
end
mutual
noncomputable def D.dep:D->Nat
 | .tup ds=>D.deps ds+1
 | _=>0
noncomputable def D.deps:List D->Nat
 | []=>0
 | d::ds=>max d.dep (D.deps ds)
end
theorem D.pls_get : ∀ {ds : List D} {i : Nat} {d : D}, D.pls ds = true -> ds[i]? = some d -> d.pl = true
  | [], i, d, _, e => by simp at e
  | d :: ds, 0, d', h, e => by
    simp at e; subst e
    rw [D.pls, Bool.and_eq_true] at h
    exact h.1
  | d :: ds, i + 1, d', h, e => by
    rw [D.pls, Bool.and_eq_true] at h
    exact D.pls_get (i := i) h.2 (by simpa using e)
theorem D.deps_get : ∀ {ds : List D} {i : Nat} {d : D}, ds[i]? = some d -> d.dep <= D.deps ds
  | [], i, d, e => by simp at e
  | d :: ds, 0, d', e => by
    simp at e; subst e
    rw [D.deps]; lia
  | d :: ds, i + 1, d', e => by
    have := D.deps_get (ds := ds) (i := i) (d := d') (by simpa using e)
    rw [D.deps]; lia
open Classical in
noncomputable def eqD (d e:D):Bool:=decide (d=e)
theorem eqD_true {d e:D}:eqD d e=true↔d=e:=by unfold eqD;simp
theorem ZcU {d:D}:eqD d d=true:=eqD_true.mpr rfl
theorem Za5 {d e:D} (h:d≠e):eqD d e=false:=by unfold eqD;simp [h]
theorem Zoe {i j:Int}:eqD (.int i) (.int j)=(i == j):=by
 by_cases h:i=j
 ·subst h;rw [ZcU];simp
 ·rw [Za5 (by intro z;cases z;exact h rfl)];simp [h]
theorem Zod {i j:Str}:eqD (.str i) (.str j)=(i == j):=by
 by_cases h:i=j
 ·subst h;rw [ZcU];simp
 ·rw [Za5 (by intro z;cases z;exact h rfl)];simp [h]
noncomputable def ZgD (ds es:List D) (f:D->D->Bool) (j:Nat):Bool:=match ds[j]?,es[j]? with|some a,some b=>f a b|_,_=>false
theorem ZhV {ds es:List D}:((List.range (min ds.length es.length)).all (ZgD ds es eqD) && ds.length == es.length)=eqD (.tup ds) (.tup es):=by
 by_cases h:ds=es
 ·subst h
  rw [ZcU]
  simp only [beq_self_eq_true,Bool.and_true,all_eq_true,mem_range]
  intro j hj
  have hj:j < ds.length:=by lia
  unfold ZgD
  rw [getElem?_eq_getElem hj]
  exact ZcU
 ·rw [Za5 (by intro z;cases z;exact h rfl)]
  by_cases hl:ds.length=es.length
  ·rw [Bool.and_eq_false_iff]
   left
   rw [<-Bool.not_eq_true]
   intro hall
   apply h
   refine ext_getElem? fun j=>?_
   by_cases hj:j < ds.length
   ·have hj':j < es.length:=by lia
    have:=all_eq_true.mp hall j (mem_range.mpr (by lia))
    unfold ZgD at this
    rw [getElem?_eq_getElem hj,getElem?_eq_getElem hj'] at this
    rw [getElem?_eq_getElem hj,getElem?_eq_getElem hj',eqD_true.mp this]
   ·rw [getElem?_eq_none (by lia),getElem?_eq_none (by lia)]
  ·rw [Bool.and_eq_false_iff]
   right
   simpa using hl
section
variable {X:Cx} {pins:List (Addr×Obj)} {σ:St} {H:Hp} {s:Shared}
theorem Inv.isTup (I:Inv X pins σ H s) {a:Addr} {xs:List V} (h:H a=some (.tup xs)):∃ its:List Value,Vals xs its/\s.heap.IsTuple a its.toArray:=by
 obtain ⟨_,its,r,p⟩:=(show ObjOk X.prog X.w H s.heap a (.tup xs) from I.hok a _ h)
 exact ⟨its,r,p⟩
theorem Zhl (I : Inv X pins σ H s) {d e : D} {x y : V} {u v : Value} {A : Around} (hd : d.dep = 0) (pd : d.pl = true) (pe : e.pl = true) (rd : Rep H d x) (re : Rep H e y) (ru : RelV x u) (rv : RelV y v) (hu : A.units < cLine) : SeqAt.EqAt A s u v (eqD d e) := by
  cases d with
  | tup ds => rw [D.dep] at hd; lia
  | bl b => simp [D.pl] at pd
  | non =>
    rw [Rep] at rd; subst rd; cases ru
    cases e with
    | bl b => simp [D.pl] at pe
    | non => rw [Rep] at re; subst re; cases rv; rw [ZcU]; exact SeqAt.EqAt.same _
    | int b => rw [Rep] at re; subst re; obtain ⟨t, rfl⟩ := rv; rw [Za5 (by intro z; cases z)]; exact SeqAt.EqAt.none_int b t
    | str b => rw [Rep] at re; subst re; obtain ⟨t, rfl⟩ := rv; rw [Za5 (by intro z; cases z)]; exact SeqAt.EqAt.none_str b t
    | tup es =>
      rw [Rep] at re
      obtain ⟨a, xs, rfl, ha, _⟩ := re
      cases rv
      obtain ⟨its, _, ht⟩ := I.isTup ha
      rw [Za5 (by intro z; cases z)]
      exact SeqAt.EqAt.none_tuple ht hu
  | int i =>
    rw [Rep] at rd; subst rd; obtain ⟨t, rfl⟩ := ru
    cases e with
    | bl b => simp [D.pl] at pe
    | non => rw [Rep] at re; subst re; cases rv; rw [Za5 (by intro z; cases z)]; exact SeqAt.EqAt.int_none i t
    | int b => rw [Rep] at re; subst re; obtain ⟨t', rfl⟩ := rv; rw [Zoe]; exact SeqAt.EqAt.int_int i t b t'
    | str b => rw [Rep] at re; subst re; obtain ⟨t', rfl⟩ := rv; rw [Za5 (by intro z; cases z)]; exact SeqAt.EqAt.int_str i t b t'
    | tup es =>
      rw [Rep] at re
      obtain ⟨a, xs, rfl, ha, _⟩ := re
      cases rv
      obtain ⟨its, _, ht⟩ := I.isTup ha
      rw [Za5 (by intro z; cases z)]
      exact SeqAt.EqAt.int_tuple i t ht hu
  | str i =>
    rw [Rep] at rd; subst rd; obtain ⟨t, rfl⟩ := ru
    cases e with
    | bl b => simp [D.pl] at pe
    | non => rw [Rep] at re; subst re; cases rv; rw [Za5 (by intro z; cases z)]; exact SeqAt.EqAt.str_none i t
    | int b => rw [Rep] at re; subst re; obtain ⟨t', rfl⟩ := rv; rw [Za5 (by intro z; cases z)]; exact SeqAt.EqAt.str_int i t b t'
    | str b => rw [Rep] at re; subst re; obtain ⟨t', rfl⟩ := rv; rw [Zod]; exact SeqAt.EqAt.str_str i t b t'
    | tup es =>
      rw [Rep] at re
      obtain ⟨a, xs, rfl, ha, _⟩ := re
      cases rv
      obtain ⟨its, _, ht⟩ := I.isTup ha
      rw [Za5 (by intro z; cases z)]
      exact SeqAt.EqAt.str_tuple i t ht hu
mutual
theorem Rep.inj {H : Hp} : ∀ {d e : D} {v : V}, Rep H d v -> Rep H e v -> d = e
  | .non, .non, _, _, _ => rfl
  | .bl a, .bl b, v, h, h' => by simp only [Rep] at h h'; rw [h] at h'; cases h'; rfl
  | .int a, .int b, v, h, h' => by simp only [Rep] at h h'; rw [h] at h'; cases h'; rfl
  | .str a, .str b, v, h, h' => by simp only [Rep] at h h'; rw [h] at h'; cases h'; rfl
  | .tup ds, .tup es, v, h, h' => by
    rw [Rep] at h h'
    obtain ⟨a, xs, rfl, ha, r⟩ := h
    obtain ⟨b, ys, e, hb, r'⟩ := h'
    cases e
    rw [ha] at hb; cases hb
    rw [Reps.inj r r']
  | .non, .bl _, v, h, h' => by simp only [Rep] at h h'; rw [h] at h'; cases h'
  | .non, .int _, v, h, h' => by simp only [Rep] at h h'; rw [h] at h'; cases h'
  | .non, .str _, v, h, h' => by simp only [Rep] at h h'; rw [h] at h'; cases h'
  | .non, .tup _, v, h, h' => by simp only [Rep] at h h'; obtain ⟨_, _, e, _⟩ := h'; rw [h] at e; cases e
  | .bl _, .non, v, h, h' => by simp only [Rep] at h h'; rw [h] at h'; cases h'
  | .bl _, .int _, v, h, h' => by simp only [Rep] at h h'; rw [h] at h'; cases h'
  | .bl _, .str _, v, h, h' => by simp only [Rep] at h h'; rw [h] at h'; cases h'
  | .bl _, .tup _, v, h, h' => by simp only [Rep] at h h'; obtain ⟨_, _, e, _⟩ := h'; rw [h] at e; cases e
  | .int _, .non, v, h, h' => by simp only [Rep] at h h'; rw [h] at h'; cases h'
  | .int _, .bl _, v, h, h' => by simp only [Rep] at h h'; rw [h] at h'; cases h'
  | .int _, .str _, v, h, h' => by simp only [Rep] at h h'; rw [h] at h'; cases h'
  | .int _, .tup _, v, h, h' => by simp only [Rep] at h h'; obtain ⟨_, _, e, _⟩ := h'; rw [h] at e; cases e
  | .str _, .non, v, h, h' => by simp only [Rep] at h h'; rw [h] at h'; cases h'
  | .str _, .bl _, v, h, h' => by simp only [Rep] at h h'; rw [h] at h'; cases h'
  | .str _, .int _, v, h, h' => by simp only [Rep] at h h'; rw [h] at h'; cases h'
  | .str _, .tup _, v, h, h' => by simp only [Rep] at h h'; obtain ⟨_, _, e, _⟩ := h'; rw [h] at e; cases e
  | .tup _, .non, v, h, h' => by simp only [Rep] at h h'; obtain ⟨_, _, e, _⟩ := h; rw [h'] at e; cases e
  | .tup _, .bl _, v, h, h' => by simp only [Rep] at h h'; obtain ⟨_, _, e, _⟩ := h; rw [h'] at e; cases e
  | .tup _, .int _, v, h, h' => by simp only [Rep] at h h'; obtain ⟨_, _, e, _⟩ := h; rw [h'] at e; cases e
  | .tup _, .str _, v, h, h' => by simp only [Rep] at h h'; obtain ⟨_, _, e, _⟩ := h; rw [h'] at e; cases e
theorem Reps.inj {H : Hp} : ∀ {ds es : List D} {vs : List V}, Reps H ds vs -> Reps H es vs -> ds = es
  | [], [], _, _, _ => rfl
  | [], e :: es, vs, h, h' => by rw [ZbD h] at h'; obtain ⟨_, _, z, _⟩ := ZaJ h'; cases z
  | d :: ds, [], vs, h, h' => by rw [ZbD h'] at h; obtain ⟨_, _, z, _⟩ := ZaJ h; cases z
  | d :: ds, e :: es, vs, h, h' => by
    obtain ⟨v, r, rfl, h1, h2⟩ := ZaJ h
    obtain ⟨v', r', z, h1', h2'⟩ := ZaJ h'
    cases z
    rw [Rep.inj h1 h1', Reps.inj h2 h2']
end
theorem eqAt_D (I : Inv X pins σ H s) : ∀ (n : Nat) {d e : D} {x y : V} {u v : Value} {A : Around}, d.dep <= n -> d.pl = true -> e.pl = true -> Rep H d x -> Rep H e y -> RelV x u -> RelV y v -> A.units + n < cLine -> SeqAt.EqAt A s u v (eqD d e) := by
  intro n
  induction n with
  | zero =>
    intro d e x y u v A hn pd pe rd re ru rv hu
    exact Zhl I (by lia) pd pe rd re ru rv (by lia)
  | succ n ih =>
    intro d e x y u v A hn pd pe rd re ru rv hu
    by_cases h0 : d.dep = 0
    · exact Zhl I h0 pd pe rd re ru rv (by lia)
    · cases d with
      | non => simp [D.dep] at h0
      | bl _ => simp [D.dep] at h0
      | int _ => simp [D.dep] at h0
      | str _ => simp [D.dep] at h0
      | tup ds =>
        obtain ⟨a, xs, rfl, ha, r⟩ := ZaW rd
        cases ru
        obtain ⟨its, vx, ht⟩ := I.isTup ha
        cases e with
        | bl b => simp [D.pl] at pe
        | non => rw [Rep] at re; subst re; cases rv; rw [Za5 (by intro z; cases z)]; exact SeqAt.EqAt.tuple_none ht (by lia)
        | int b => rw [Rep] at re; subst re; obtain ⟨t, rfl⟩ := rv; rw [Za5 (by intro z; cases z)]; exact SeqAt.EqAt.tuple_int b t ht (by lia)
        | str b => rw [Rep] at re; subst re; obtain ⟨t, rfl⟩ := rv; rw [Za5 (by intro z; cases z)]; exact SeqAt.EqAt.tuple_str b t ht (by lia)
        | tup es =>
          obtain ⟨b, ys, rfl, hb, r'⟩ := ZaW re
          cases rv
          by_cases hab : a = b
          · subst hab
            rw [Rep.inj rd re, ZcU]
            exact SeqAt.EqAt.same _
          · obtain ⟨its', vy, ht'⟩ := I.isTup hb
            refine SeqAt.EqAt.of_refs hab ?_
            have l1 := vx.length
            have l2 := vy.length
            have l3 := r.length
            have l4 := r'.length
            have key := SeqAt.RcAt.tuples (A := A) (e := ZgD ds es eqD) ht ht' (by lia) fun j h1 h2 => ?_
            · rw [<- ZhV, l3, l4, l1, l2]
              simpa using key
            · have h1' : j < its.length := by simpa using h1
              have h2' : j < its'.length := by simpa using h2
              have e1 : ds[j]? = some (ds[j]'(by lia)) := getElem?_eq_getElem _
              have e2 : es[j]? = some (es[j]'(by lia)) := getElem?_eq_getElem _
              obtain ⟨v1, q1, p1⟩ := r.get e1
              obtain ⟨v2, q2, p2⟩ := r'.get e2
              obtain ⟨u1, z1, w1⟩ := vx.get q1
              obtain ⟨u2, z2, w2⟩ := vy.get q2
              have y1 : its.toArray[j] = u1 := by
                have : its[j]? = some its[j] := getElem?_eq_getElem h1'
                rw [z1] at this
                simpa using (Option.some.inj this).symm
              have y2 : its'.toArray[j] = u2 := by
                have : its'[j]? = some its'[j] := getElem?_eq_getElem h2'
                rw [z2] at this
                simpa using (Option.some.inj this).symm
              rw [y1, y2]
              unfold ZgD
              rw [e1, e2]
              rw [D.dep] at hn
              have hdep := D.deps_get e1
              rw [D.pl] at pd pe
              exact ih (by lia) (D.pls_get pd e1) (D.pls_get pe e2) p1 p2 w1 w2 (by show A.units + 1 + n < cLine; lia)
end
end L2
end
section
namespace L2
open PySem PySem.Spec PyProof.Rows
section
variable {X:Cx}
theorem ZiB {X:Cx} {pins:List (Addr×Obj)} {σ:St} {H:Hp} {s:Shared} {A:Around} (I:Inv X pins σ H s) {ds es:List D} {xs ys:List V} {its its':List Value} (vx:Vals xs its) (vy:Vals ys its') (r:Reps H ds xs) (r':Reps H es ys) (pd:D.pls ds=true) (pe:D.pls es=true)
  (hd:D.deps ds<=40) (hu:A.units+40 < cLine):∀ j (h1:j < its.toArray.size) (h2:j < its'.toArray.size),SeqAt.EqAt A s its.toArray[j] its'.toArray[j] (ZgD ds es eqD j):=by
 intro j h1 h2
 have l1:=vx.length
 have l2:=vy.length
 have l3:=r.length
 have l4:=r'.length
 have h1':j < its.length:=by simpa using h1
 have h2':j < its'.length:=by simpa using h2
 have e1:ds[j]?=some (ds[j]'(by lia)):=getElem?_eq_getElem _
 have e2:es[j]?=some (es[j]'(by lia)):=getElem?_eq_getElem _
 obtain ⟨v1,q1,p1⟩:=r.get e1
 obtain ⟨v2,q2,p2⟩:=r'.get e2
 obtain ⟨u1,z1,w1⟩:=vx.get q1
 obtain ⟨u2,z2,w2⟩:=vy.get q2
 have y1:its.toArray[j]=u1:=by
  have:its[j]?=some its[j]:=getElem?_eq_getElem h1'
  rw [z1] at this
  simpa using (Option.some.inj this).symm
 have y2:its'.toArray[j]=u2:=by
  have:its'[j]?=some its'[j]:=getElem?_eq_getElem h2'
  rw [z2] at this
  simpa using (Option.some.inj this).symm
 rw [y1,y2]
 unfold ZgD
 rw [e1,e2]
 have hdep:=D.deps_get e1
 exact eqAt_D I 40 (by lia) (D.pls_get pd e1) (D.pls_get pe e2) p1 p2 w1 w2 hu
noncomputable def rEqL (K:PySem.W.Frag):R2:=fun x y H Q=>∃ a b xs ys ds es,x=.ref a/\y=.ref b/\SqL K H a xs/\SqL K H b ys/\Reps H ds xs/\Reps H es ys/\D.pls ds=true/\D.pls es=true/\D.deps ds<=40/\Q (.bl (eqD (.tup ds) (.tup es))) H
noncomputable def rNeL (K:PySem.W.Frag):R2:=fun x y H Q=>∃ a b xs ys ds es,x=.ref a/\y=.ref b/\SqL K H a xs/\SqL K H b ys/\Reps H ds xs/\Reps H es ys/\D.pls ds=true/\D.pls es=true/\D.deps ds<=40/\Q (.bl (!eqD (.tup ds) (.tup es))) H
theorem op_eqL (hu:X.A.units+64 < cLine):OpR X (compareOp .Eq) (rEqL X.K):=by
 rintro pins s σ H x y v u Q I rx ry ⟨a,b,xs,ys,ds,es,rfl,rfl,ha,hb,r,r',pd,pe,hd,q⟩
 cases rx;cases ry
 obtain ⟨its,vx,ht,_⟩:=I.list ha
 obtain ⟨its',vy,ht',_⟩:=I.list hb
 by_cases hl:its.length=its'.length
 ·refine SeqAt.eq_listAt (e:=ZgD ds es eqD) ht.isList ht'.isList (by simpa using hl) (by lia) (ZiB (A:=X.A.in1) I vx vy r r' pd pe hd (by show X.A.units+1+40 < cLine;lia)) ?_
  refine ZaX I q ?_
  rw [<-ZhV,r.length,r'.length,vx.length,vy.length,hl]
  simp [hl]
 ·refine SeqAt.eq_list_lengthsAt ht.isList ht'.isList (by simpa using hl) (by lia) (ZaX I q ?_)
  refine Za5 fun z=>hl ?_
  cases z
  rw [<-vx.length,<- vy.length,<- r.length,<- r'.length]
theorem ZmJ (hu:X.A.units+64 < cLine):OpR X (compareOp .NotEq) (rNeL X.K):=by
 rintro pins s σ H x y v u Q I rx ry ⟨a,b,xs,ys,ds,es,rfl,rfl,ha,hb,r,r',pd,pe,hd,q⟩
 cases rx;cases ry
 obtain ⟨its,vx,ht,_⟩:=I.list ha
 obtain ⟨its',vy,ht',_⟩:=I.list hb
 by_cases hl:its.length=its'.length
 ·refine SeqAt.RcNeAt.lists (e:=ZgD ds es eqD) ht.isList ht'.isList (by simpa using hl) (by lia) (ZiB (A:=X.A.in1) I vx vy r r' pd pe hd (by show X.A.units+1+40 < cLine;lia)) _ _ _ _ ?_
  refine ZaX I q ?_
  rw [<-ZhV,r.length,r'.length,vx.length,vy.length,hl]
  simp [hl]
 ·refine SeqAt.RcNeAt.lists_lengths ht.isList ht'.isList (by simpa using hl) (by lia) _ _ _ _ (ZaX I q ?_)
  rw [Za5 fun z=>hl ?_]
  ·rfl
  ·cases z
   rw [<-vx.length,<- vy.length,<- r.length,<- r'.length]
noncomputable def CBig (i j:Int):Prop:=i.natAbs < 2 ^ 8000/\j.natAbs < 2 ^ 8000
theorem ZiI {i:Int} (h:i.natAbs < 2 ^ 8000):Builtin.Int.intBits i<=8000:=by
 unfold Builtin.Int.intBits
 by_cases h0:i=0
 ·simp [h0]
 ·have:(i == 0)=false:=by simpa using h0
  rw [this]
  have:=(Nat.log2_lt (show i.natAbs≠0 by lia)).mpr h
  simp
  lia
theorem CBig.ok {i j:Int} (h:CBig i j):IntMulOk i j:=by
 unfold IntMulOk
 have h1:=ZiI h.1
 have h2:=ZiI h.2
 have hb:Builtin.Int.intTooBig (Builtin.Int.intBits i+Builtin.Int.intBits j)=false:=by
  unfold Builtin.Int.intTooBig
  rw [decide_eq_false]
  have:(16000:Int)<=bitsLine:=by decide
  lia
 rw [hb]
 simp
theorem Zj9:OpR X (binaryOp .Mult) (rI CBig fun i j=>.int (i * j)):=opI fun _ _ _ _ _ _ _ hc q=>mul_int q hc.ok
noncomputable def Zoq (i j:Int):Prop:=0 < j/\j.natAbs < 2 ^ 8000
theorem Zgt:OpR X (binaryOp .FloorDiv) (rI Zoq fun i j=>.int (i / j)):=opI fun i j _ _ _ _ _ hc q=>by
 have hj:j≠0:=by have:=hc.1;lia
 refine floordiv_int hj ?_ (.inl (PyProof.noPylong_of_log2 ?_))
 ·rw [Int.fdiv_eq_ediv_of_nonneg _ (by have:=hc.1;lia)]
  exact q
 ·have:=(Nat.log2_lt (show j.natAbs≠0 by lia)).mpr hc.2
  lia
noncomputable def isi (t T:String):Bool:=t == T || (t == "bool" && T == "int")
theorem kit_of {K:PySem.W.Frag}:∀ {t T:String},t∈["int","bool","str","tuple","list","dict","NoneType"]->T∈["int","bool","str","tuple","list","dict"]->PySem.W.kitOne K (.type t) (.type T)=some (isi t T):=by
 intro t T ht hT
 simp only [mem_cons,mem_nil_iff,or_false] at ht hT
 rcases ht with rfl|rfl|rfl|rfl|rfl|rfl|rfl <;> rcases hT with rfl|rfl|rfl|rfl|rfl|rfl <;> with_unfolding_all rfl
noncomputable def tyO:Option HO->Option String
 | some (.lst _)=>some "list"
 | some (.frz _ (.lst _))=>some "list"
 | some (.tup _)=>some "tuple"
 | some (.dK _)=>some "dict"
 | some (.dT _)=>some "dict"
 | _=>none
noncomputable def tyN (H:Hp):V->Option String
 | .non=>some "NoneType"
 | .bl _=>some "bool"
 | .int _=>some "int"
 | .str _=>some "str"
 | .ref a=>tyO (H a)
 | _=>none
theorem Zmt {K : PySem.W.Frag} {H : Hp} {x : V} {t : String} (h : tyN H x = some t) : TyOf K H x (.type t) /\ t ∈ ["int", "bool", "str", "tuple", "list", "dict", "NoneType"] := by
  cases x with
  | non => cases h; exact ⟨.non, by decide⟩
  | bl b => cases h; exact ⟨.bl b, by decide⟩
  | int i => cases h; exact ⟨.int i, by decide⟩
  | str y => cases h; exact ⟨.str y, by decide⟩
  | ref a =>
    have h : tyO (H a) = some t := h
    cases e : H a with
    | none => rw [e] at h; cases h
    | some o =>
      rw [e] at h
      cases o with
      | lst _ => cases h; exact ⟨.lst e, by decide⟩
      | frz _ o =>
        cases o with
        | lst _ => cases h; exact ⟨.frz e, by decide⟩
        | _ => cases h
      | tup _ => cases h; exact ⟨.tup e, by decide⟩
      | dK _ => cases h; exact ⟨.dK e, by decide⟩
      | dT _ => cases h; exact ⟨.dT e, by decide⟩
      | _ => cases h
  | byt _ => cases h
  | flt _ => cases h
  | ty _ => cases h
noncomputable def rIsi:List V->Hp->VK->Prop:=fun xs H Q=>∃ x T t,xs=[x,.ty T]/\tyN H x=some t/\T∈["int","bool","str","tuple","list","dict"]/\Q (.bl (isi t T)) H
theorem Zcw : Zc9 X (.builtin "isinstance") rIsi := by
  intro pins s σ H xs us Q I r h
  obtain ⟨x, T, t, rfl, ht, hT, q⟩ := h
  cases r with
  | cons r1 r2 =>
    cases r2 with
    | cons r3 r4 =>
      cases r4
      cases r3
      obtain ⟨ty, hm⟩ := Zmt (K := X.K) ht
      exact ZkD I r1 ty (kit_of hm hT) fun tk => ⟨.bl _, H, I.tok _, rfl, q⟩
end
structure Callee (P:Program) (w:World) (K:PySem.W.Frag) (mg:Str->Option Value) (base:Heap) (x:Str) (k:Nat) (ps:List Str) (sp:Sp):Prop where
 ex:∃ f fd,FnOk P w K mg base CX0 k f fd ps sp/\mg x=some (.ref f)/\PySem.W.keepIn K (.ref f)=true/\Binds K fd ps []
theorem Za7 {X:Cx} {x:Str} {k:Nat} {ps:List Str} {sp:Sp} {p pos:Pos} {e:Expr} {es:List Expr} {t:TA} (C:Callee X.prog X.w X.K X.mg X.base x k ps sp) (hr:Room k X.A) (hg:Gl X x) (ha:PA X (e::es) t) (hdb:(x == ("__debug__":Str))=false:=by decide)
  (he:starEach (e::es) X.env=(false,eval e X.env)::starEach es X.env:=by rfl) (hpl:(backTo pos (starEach es X.env)).any (·.1)=false:=by rfl) :
  PE X (.Call (.Name x p) (e::es) [] pos) (ZgY sp [] E0 t):=by
 obtain ⟨f,fd,F,hm,hk,hb⟩:=C.ex
 exact ZhK F hr hg hm hk hb .nil pass0 ha hdb he hpl
section
variable {K:PySem.W.Frag} {a:Addr} {xs:List V} {g:TG} {tt:TT} {te:TE} {Q:VK} {σ:St} {H:Hp}
noncomputable def CN (Pv:Nat->List V->St->Hp->Prop) (i:Nat) (ys':List V) (σ':St) (H':Hp):Prop:=ys'.length<=i+1/\Pv (i+1) ys' σ' H'
theorem Zmg {J:It} (n:Nat) (hz:n<=sizeLine) (Pv:Nat->List V->St->Hp->Prop) (h0:Pv 0 [] σ H) (hgo:∀ i ys σ H,i < n->Pv i ys σ H->J.go i H) (hstop:∀ ys σ H,Pv n ys σ H->J.stop n H)
  (hs:∀ i x ys σ H H2,i < n->ys.length<=i->ys.length < sizeLine->Pv i ys σ H->J.yld i H x H2->g x σ H2 fun σ2 H3=>tt σ2 H3 fun ok H4=>if ok=true then te σ2 H4 fun y H5=>ys.length < sizeLine/\CN Pv i (ys++[y]) σ2 H5 else CN Pv i ys σ2 H4)
  (hd:∀ ys σ H,ys.length<=n->Pv n ys σ H->∀ p,H p=none->Q (.ref p) (upd H p (.lst ys))) :
  ∃ W:Nat->Nat->List V->St->Hp->Prop,(∃ m,W 0 m [] σ H)/\CW J g tt te W Q:=by
 refine ⟨fun i m ys σ H=>m=n - i/\i<=n/\ys.length<=i/\Pv i ys σ H,⟨n,by simp,Nat.zero_le _,Nat.le_refl _,h0⟩,?_⟩
 rintro i m ys σ H ⟨rfl,hi,hy,p⟩
 by_cases hlt:i < n
 ·exact .inr ⟨hgo i ys σ H hlt p,CN Pv i,fun ys' σ' H' p'=>⟨n - (i+1),by lia,rfl,hlt,p'.1,p'.2⟩,fun x H2 y=>hs i x ys σ H H2 hlt hy (by lia) p y⟩
 ·have e:i=n:=by lia
  subst e
  exact .inl ⟨hstop ys σ H p,by lia,hd ys σ H hy p⟩
theorem Zds (hz:xs.length<=sizeLine) (Pv:Nat->List V->St->Hp->Prop) (h0:Pv 0 [] σ H) (hl:∀ i ys σ H,i<=xs.length->Pv i ys σ H->SqL K H a xs)
  (hs:∀ i x ys σ H,xs[i]?=some x->ys.length<=i->ys.length < sizeLine->Pv i ys σ H->g x σ H fun σ2 H3=>tt σ2 H3 fun ok H4=>if ok=true then te σ2 H4 fun y H5=>ys.length < sizeLine/\CN Pv i (ys++[y]) σ2 H5 else CN Pv i ys σ2 H4)
  (hd:∀ ys σ H,ys.length<=xs.length->Pv xs.length ys σ H->∀ p,H p=none->Q (.ref p) (upd H p (.lst ys))) :
  ∃ W:Nat->Nat->List V->St->Hp->Prop,(∃ m,W 0 m [] σ H)/\CW (Itl K a) g tt te W Q:=by
 refine Zmg xs.length hz Pv h0 (fun i ys σ H hi p=>⟨xs,xs[i],hl i ys σ H (Nat.le_of_lt hi) p,by simp [hi]⟩) (fun ys σ H p=>⟨xs,hl _ ys σ H (Nat.le_refl _) p,Nat.le_refl _⟩) (fun i x ys σ H H2 hi h1 h2 p y=>?_) hd
 obtain ⟨rfl,y⟩:=y
 exact hs i x ys σ _ (y xs (hl i ys σ _ (Nat.le_of_lt hi) p)) h1 h2 p
theorem ZmT (hz:xs.length<=sizeLine) (Pv:Nat->List V->St->Hp->Prop) (h0:Pv 0 [] σ H) (hl:∀ i ys σ H,i<=xs.length->Pv i ys σ H->SqT K H a xs)
  (hs:∀ i x ys σ H,xs[i]?=some x->ys.length<=i->ys.length < sizeLine->Pv i ys σ H->g x σ H fun σ2 H3=>tt σ2 H3 fun ok H4=>if ok=true then te σ2 H4 fun y H5=>ys.length < sizeLine/\CN Pv i (ys++[y]) σ2 H5 else CN Pv i ys σ2 H4)
  (hd:∀ ys σ H,ys.length<=xs.length->Pv xs.length ys σ H->∀ p,H p=none->Q (.ref p) (upd H p (.lst ys))) :
  ∃ W:Nat->Nat->List V->St->Hp->Prop,(∃ m,W 0 m [] σ H)/\CW (Itt K a) g tt te W Q:=by
 refine Zmg xs.length hz Pv h0 (fun i ys σ H hi p=>⟨xs,xs[i],hl i ys σ H (Nat.le_of_lt hi) p,by simp [hi]⟩) (fun ys σ H p=>⟨xs,hl _ ys σ H (Nat.le_refl _) p,Nat.le_refl _⟩) (fun i x ys σ H H2 hi h1 h2 p y=>?_) hd
 obtain ⟨rfl,y⟩:=y
 exact hs i x ys σ _ (y xs (hl i ys σ _ (Nat.le_of_lt hi) p)) h1 h2 p
theorem Zfb {lo:Int} {n:Nat} (hz:n<=sizeLine) (Pv:Nat->List V->St->Hp->Prop) (h0:Pv 0 [] σ H)
  (hs:∀ i ys σ H,i < n->ys.length<=i->ys.length < sizeLine->Pv i ys σ H->g (.int (lo+i)) σ H fun σ2 H3=>tt σ2 H3 fun ok H4=>if ok=true then te σ2 H4 fun y H5=>ys.length < sizeLine/\CN Pv i (ys++[y]) σ2 H5 else CN Pv i ys σ2 H4)
  (hd:∀ ys σ H,ys.length<=n->Pv n ys σ H->∀ p,H p=none->Q (.ref p) (upd H p (.lst ys))) :
  ∃ W:Nat->Nat->List V->St->Hp->Prop,(∃ m,W 0 m [] σ H)/\CW (Itr lo n) g tt te W Q:=by
 refine Zmg n hz Pv h0 (fun i ys σ H hi p=>hi) (fun ys σ H p=>Nat.le_refl _) (fun i x ys σ H H2 hi h1 h2 p y=>?_) hd
 obtain ⟨rfl,rfl⟩:=y
 exact hs i ys σ _ hi h1 h2 p
end
end L2
end
section
namespace L2
open PySem PySem.Spec PyProof.Rows
section
variable {σ:St} {H:Hp} {Q:VK} {v x y:V} {ta tb tc te:TE} {t u:TS} {c d:TT} {D':Ends} {r:R2} {g:TG} {i j:Int} {n:Nat} {K:PySem.W.Frag}
theorem rd_var (e:σ[n]?=some (some v)) (h:Q v H):tVar n σ H Q:=⟨v,e,h⟩
theorem rd_c (h:Q v H):tC v σ H Q:=h
theorem rd_op (h:ta σ H fun x H1=>tb σ H1 fun y H2=>r x y H2 Q):tOp r ta tb σ H Q:=h
theorem rd_un {r:V->Hp->VK->Prop} (h:ta σ H fun x H1=>r x H1 Q):tUn r ta σ H Q:=h
theorem Zf3 (h:t { D' with nx:=u D' } σ H):tSeq t u D' σ H:=h
theorem Zio (h:te σ H fun x H1=>g x σ H1 D'.nx):tAsg te g D' σ H:=h
theorem Zcc {R:St->Hp->Prop} (h:R (σ.set n (some v)) H):Zd2 n v σ H R:=h
theorem rd_ret (h:te σ H D'.rt):tRet te D' σ H:=h
theorem Zny (h:te σ H fun _ H1=>D'.nx σ H1):tDrop te D' σ H:=h
theorem Zfk (h:D'.nx σ H):tNext D' σ H:=h
theorem rd_if (h:c σ H fun b H1=>if b=true then t D' σ H1 else u D' σ H1):tIfS c t u D' σ H:=h
theorem Znb {R:Bool->Hp->Prop} (h:ta σ H fun x H'=>∃ k,x=.bl k/\R k H'):ZiO ta σ H R:=h
theorem rd_tb {R:Bool->Hp->Prop} (h:ta σ H fun x H'=>∃ k,x=.bl k/\R k H'):tB ta σ H R:=h
theorem rd_and {R:Bool->Hp->Prop} (h:c σ H fun b H1=>if b=true then d σ H1 R else R false H1):tAnd c d σ H R:=h
theorem rd_or {R:Bool->Hp->Prop} (h:c σ H fun b H1=>if b=true then R true H1 else d σ H1 R):tOr c d σ H R:=h
theorem rd_not {R:Bool->Hp->Prop} (h:c σ H fun b H1=>R (!b) H1):tNot c σ H R:=h
theorem Zna {R:Bool->Hp->Prop} (h:R true H):tTrue σ H R:=h
theorem ZnB (h:ta σ H fun x H1=>∃ c,x=.bl c/\if c=true then tb σ H1 Q else Q (.bl false) H1):tAndV ta tb σ H Q:=h
theorem rd_orV (h:ta σ H fun x H1=>∃ c,x=.bl c/\if c=true then Q (.bl true) H1 else tb σ H1 Q):tOrV ta tb σ H Q:=h
theorem rd_ifE (h:c σ H fun b H1=>if b=true then ta σ H1 Q else tb σ H1 Q):tIf c ta tb σ H Q:=h
theorem ZlC {r r':R2} (h:ta σ H fun x H1=>tb σ H1 fun y H2=>r x y H2 fun z H3=>∃ k,z=.bl k/\(if k=true then tc σ H3 fun w' H4=>r' y w' H4 Q else Q (.bl false) H3)):Zmw r r' ta tb tc σ H Q:=h
theorem rd_nil {R:List V->Hp->Prop} (h:R [] H):tNil σ H R:=h
theorem Znz {tr:TA} {R:List V->Hp->Prop} (h:ta σ H fun x H1=>tr σ H1 fun xs H2=>R (x::xs) H2):Zc0 ta tr σ H R:=h
theorem rd_cb {rr:List V->Hp->VK->Prop} {ta:TA} (h:ta σ H fun vs H1=>rr vs H1 Q):tCB rr ta σ H Q:=h
theorem ZjP {f:Int->Int->V} (h:Q (f i j) H):rI0 f (.int i) (.int j) H Q:=⟨i,j,rfl,rfl,h⟩
theorem rd_I {C:Int->Int->Prop} {f:Int->Int->V} (hc:C i j) (h:Q (f i j) H):rI C f (.int i) (.int j) H Q:=⟨i,j,rfl,rfl,hc,h⟩
theorem rd_U {f:Int->V} (h:Q (f i) H):rU f (.int i) H Q:=⟨i,rfl,h⟩
theorem ZjL (h:Q (.bl (decide (i=j))) H):rEq (.int i) (.int j) H Q:=⟨rfl,by rw [ZgG,Bool.beq_eq_decide_eq];exact h⟩
theorem ZmB (h:Q (.bl (!decide (i=j))) H):rNe (.int i) (.int j) H Q:=⟨rfl,by rw [ZgG,Bool.beq_eq_decide_eq];exact h⟩
theorem ZmC {a b:Str} (h:Q (.bl (decide (a=b))) H):rEq (.str a) (.str b) H Q:=⟨rfl,by rw [ZgF,Bool.beq_eq_decide_eq];exact h⟩
theorem ZmA {a b:Str} (h:Q (.bl (!decide (a=b))) H):rNe (.str a) (.str b) H Q:=⟨rfl,by rw [ZgF,Bool.beq_eq_decide_eq];exact h⟩
theorem rd_eqB {a b:Bool} (h:Q (.bl (decide (a=b))) H):rEq (.bl a) (.bl b) H Q:=⟨rfl,by rw [ZiG,Bool.beq_eq_decide_eq];exact h⟩
theorem rd_neB {a b:Bool} (h:Q (.bl (!decide (a=b))) H):rNe (.bl a) (.bl b) H Q:=⟨rfl,by rw [ZiG,Bool.beq_eq_decide_eq];exact h⟩
theorem Zgq {b:Bool} {R:Bool->Prop} (h:R b):∃ k,V.bl b=V.bl k/\R k:=⟨b,rfl,h⟩
theorem rd_tup {ta:TA} (h:ta σ H fun xs H1=>xs.length<=sizeLine/\∀ p,H1 p=none->Q (.ref p) (upd H1 p (.tup xs))):tTup ta σ H Q:=h
theorem rd_lst {ta:TA} (h:ta σ H fun xs H1=>xs.length<=sizeLine/\∀ p,H1 p=none->Q (.ref p) (upd H1 p (.lst xs))):tLst ta σ H Q:=h
theorem Ze6 {n:Nat} (h:n<=1000):n<=sizeLine:=Nat.le_trans h (by decide)
theorem rd_ixT {p:Addr} {xs:List V} (h:H p=some (.tup xs)) (e:atI xs i=some v) (q:Q v H):rIxT K (.ref p) (.int i) H Q:=⟨p,xs,i,v,rfl,rfl,SqT.of h,e,q⟩
theorem rd_ixL {p:Addr} {xs:List V} (h:H p=some (.lst xs)) (e:atI xs i=some v) (q:Q v H):rIxL K (.ref p) (.int i) H Q:=⟨p,xs,i,v,rfl,rfl,SqL.of h,e,q⟩
theorem Zcy {p:Addr} {xs:List V} {k:Nat} {R:Hp->Prop} (h:H p=some (.lst xs)) (e:ixN xs.length i=some k) (q:R (upd H p (.lst (xs.set k v)))):ZjV (.ref p) (.int i) v H R:=⟨p,xs,i,k,rfl,rfl,h,e,q⟩
theorem Znu {to ti:TE} {ts:TSet} {R:St->Hp->Prop} (h:to σ H fun o H1=>ti σ H1 fun i H2=>ts o i v H2 fun H3=>R σ H3):gSub to ti ts v σ H R:=h
theorem Zcg {x:V} {T t:String} (h:tyN H x=some t) (hT:T∈["int","bool","str","tuple","list","dict"]) (q:Q (.bl (isi t T)) H):rIsi [x,.ty T] H Q:=⟨x,T,t,rfl,h,hT,q⟩
theorem ZhB {a:Addr} {xs:List V} (h:H a=some (.tup xs)):tyN H (.ref a)=some "tuple":=by show tyO (H a)=_;rw [h];rfl
theorem Zjg {a:Addr} {xs:List V} (h:H a=some (.lst xs)):tyN H (.ref a)=some "list":=by show tyO (H a)=_;rw [h];rfl
theorem Zoc (a b:Str):eqV (.str a) (.str b)=(a == b):=rfl
theorem Zlp {rr:V->Option Int->Option Int->Hp->VK->Prop} {tl th:TO} (h:te σ H fun x H1=>tl σ H1 fun l H2=>th σ H2 fun u H3=>rr x l u H3 Q):tSl rr te tl th σ H Q:=h
theorem ZjG {R:Option Int->Hp->Prop} (h:R none H):Zez σ H R:=h
theorem Znj {R:Option Int->Hp->Prop} (h:ta σ H fun x H1=>∃ i,x=.int i/\R (some i) H1):ZiP ta σ H R:=h
theorem rd_int {R:Int->Prop} (h:R i):∃ k,V.int i=V.int k/\R k:=⟨i,rfl,h⟩
theorem rd_bm {T:String} {rr:V->List V->Hp->VK->Prop} {ta':TA} (h:ta σ H fun x H1=>tyV K T x H1/\ta' σ H1 fun xs H2=>rr x xs H2 Q):tBM K T rr ta ta' σ H Q:=h
theorem rd_bm0 {T:String} {rr:V->List V->Hp->VK->Prop} (h:ta σ H fun x H1=>tyV K T x H1/\rr x [] H1 Q):tBM0 K T rr ta σ H Q:=h
theorem ZaV {l:Addr} {xs:List V} (h:H l=some (.lst xs)) (hz:xs.length < sizeLine) (q:Q .non (upd H l (.lst (xs++[y])))):ZjX (.ref l) [y] H Q:=⟨l,xs,y,rfl,rfl,h,hz,q⟩
theorem ZnA {LN:List Str} {fr:List Nat} {wi:TI} (h:wi σ H fun J H1=>∃ W:Nat->Nat->List V->St->Hp->Prop,(∃ m,W 0 m [] (Zd5 LN fr σ) H1)/\CW J g c te W Q):Zjk LN fr wi g c te σ H Q:=h
noncomputable def itK (K:PySem.W.Frag) (R:It->Hp->Prop) (x:V) (H1:Hp):Prop:=∃ a,x=.ref a/\(∃ xs,SqT K H1 a xs)/\R (Itt K a) H1
noncomputable def ilK (K:PySem.W.Frag) (R:It->Hp->Prop) (x:V) (H1:Hp):Prop:=∃ a,x=.ref a/\(∃ xs,SqL K H1 a xs)/\R (Itl K a) H1
noncomputable def irK (R:It->Hp->Prop) (vs:List V) (H1:Hp):Prop:=∃ j:Int,vs=[.int j]/\-(2 ^ 62)<=j/\j < 2 ^ 62/\R (Itr 0 j.toNat) H1
theorem Znp {R:It->Hp->Prop} {tl:TE} (h:tl σ H (itK K R)):iTup K tl σ H R:=h
theorem Zlw {R:It->Hp->Prop} {tl:TE} (h:tl σ H (ilK K R)):Zn6 K tl σ H R:=h
theorem Znr {R:It->Hp->Prop} {ta':TA} (h:ta' σ H (irK R)):iRng1 ta' σ H R:=h
theorem Zn5 {R:It->Hp->Prop} {x:V} {ds:List D} (h:Rep H (.tup ds) x) (q:∀ a xs,x=.ref a->H a=some (.tup xs)->Reps H ds xs->R (Itt K a) H):itK K R x H:=by
 obtain ⟨a,xs,rfl,ha,r⟩:=ZaW h
 exact ⟨a,rfl,⟨xs,SqT.of ha⟩,q a xs rfl ha r⟩
theorem Zb4 {R:It->Hp->Prop} {a:Addr} {xs:List V} (h:SqL K H a xs) (q:R (Itl K a) H):ilK K R (.ref a) H:=⟨a,rfl,⟨xs,h⟩,q⟩
theorem ZdY {R:It->Hp->Prop} {j:Int} (h1:-(2 ^ 62)<=j) (h2:j < 2 ^ 62) (q:R (Itr 0 j.toNat) H):irK R [.int j] H:=⟨j,rfl,h1,h2,q⟩
theorem ZeE {tg:TGs} {a:Addr} {xs:List V} {R:St->Hp->Prop} (h:H a=some (.tup xs)) (hl:xs.length=n) (q:tg xs σ H R):gTup K n tg (.ref a) σ H R:=⟨a,xs,rfl,SqT.of h,hl,q⟩
theorem Zlx {tg:TGs} {vs:List V} {R:St->Hp->Prop} (h:g v σ H fun σ' H'=>tg vs σ' H' R):gCons g tg (v::vs) σ H R:=⟨v,vs,rfl,h⟩
theorem Znv {R:St->Hp->Prop} (h:R σ H):gNil [] σ H R:=⟨rfl,h⟩
theorem rd_for {wi:TI} (h:wi σ H fun J H1=>∃ W:Nat->Nat->St->Hp->Prop,(∃ m,W 0 m σ H1)/\∀ i m σ H,W i m σ H ->
 (J.stop i H/\D'.nx σ H)\/(J.go i H/\∃ N:St->Hp->Prop,(∀ σ' H',N σ' H'->∃ m',m' < m/\W (i+1) m' σ' H')/\∀ x H',J.yld i H x H'->g x σ H' fun σ2 H2=>t { D' with nx:=N,ct:=N,bk:=D'.nx } σ2 H2)):tFor wi g t D' σ H:=h
end
end L2
end
section
namespace L2
open PySem PySem.Spec PyProof.Rows
theorem bt_abs:bootBuiltins "abs"=some (.builtin "abs"):=by decide +kernel
theorem ZbA:bootBuiltins "len"=some (.builtin "len"):=by decide +kernel
theorem ZaK:bootBuiltins "isinstance"=some (.builtin "isinstance"):=by decide +kernel
theorem ZmX:bootBuiltins "all"=some (.builtin "all"):=by decide +kernel
theorem Zev:bootBuiltins "int"=some (.type "int"):=by decide +kernel
theorem Zk4:bootBuiltins "bool"=some (.type "bool"):=by decide +kernel
theorem ZbS:bootBuiltins "tuple"=some (.type "tuple"):=by decide +kernel
theorem ZgQ:bootBuiltins "list"=some (.type "list"):=by decide +kernel
theorem ZdB:bootBuiltins "str"=some (.type "str"):=by decide +kernel
noncomputable def bkOk (N:List Str) (sc osc:Scope) (FN:List Str) (fr:List Nat):Bool :=
 decide (sc.kind=.function) && sc.names.all (fun y=>decide (y.2≠.cell)) && sc.names.all (fun y=>decide (y.2=.local->sc.names.lookup y.1=some .local)) &&
 sc.names.all (fun y=>decide (y.2=.free->osc.names.lookup y.1=some .cell\/osc.names.lookup y.1=some .free)) &&
 FN.all (fun x=>decide (osc.names.lookup x=some .cell\/osc.names.lookup x=some .free)) && FN.all (fun x=>decide (sc.names.lookup x=some .free)) && decide (FN.map some=fr.map fun j=>N[j]?)
theorem ZdO {N:List Str} {sc osc:Scope} {LN FN:List Str} {fr:List Nat} (h:bkOk N sc osc FN fr=true):BkScope N sc osc LN FN fr:=by
 unfold bkOk at h
 simp only [Bool.and_eq_true,all_eq_true,decide_eq_true_eq] at h
 obtain ⟨⟨⟨⟨⟨⟨h1,h2⟩,h3⟩,h4⟩,h5⟩,h6⟩,h7⟩:=h
 exact ⟨h1,h2,h3,h4,h5,h6,h7⟩
section
variable {X:Cx}
noncomputable def rIxA (K:PySem.W.Frag):R2:=fun x y H Q=>rIxL K x y H Q\/rIxT K x y H Q
theorem ix_any:IxR X (rIxA X.K):=ix_list.or ix_tup
theorem Za6 {K:PySem.W.Frag} {H:Hp} {p:Addr} {xs:List V} {i:Int} {v:V} {Q:VK} (h:H p=some (.tup xs)) (e:atI xs i=some v) (q:Q v H):rIxA K (.ref p) (.int i) H Q:=.inr (rd_ixT h e q)
theorem Zaj {K:PySem.W.Frag} {H:Hp} {p:Addr} {xs:List V} {i:Int} {v:V} {Q:VK} (h:H p=some (.lst xs)) (e:atI xs i=some v) (q:Q v H):rIxA K (.ref p) (.int i) H Q:=.inl (rd_ixL h e q)
theorem Zan {α:Type} {xs:List α} {i:Int} {n:Nat} {v:α} (hi:i=(n:Int)) (h:xs[n]?=some v):atI xs i=some v:=by
 subst hi
 have hl:n < xs.length:=(List.getElem?_eq_some_iff.mp h).1
 unfold atI ixN
 rw [if_pos (by lia),if_pos (by lia)]
 simpa using h
theorem ZkB {m:Nat} {i:Int} {n:Nat} (hi:i=(n:Int)) (h:n < m):ixN m i=some n:=by
 subst hi
 unfold ixN
 rw [if_pos (by lia),if_pos (by lia)]
 simp
theorem Zik {K:PySem.W.Frag} {H:Hp} {x:V} {ds:List D} {i:Int} {n:Nat} {d:D} {Q:VK} (h:Rep H (.tup ds) x) (hi:i=(n:Int)) (e:ds[n]?=some d) (q:∀ v,Rep H d v->Q v H):rIxA K x (.int i) H Q:=by
 obtain ⟨a,xs,rfl,ha,r⟩:=ZaW h
 obtain ⟨v,ev,rv⟩:=r.get e
 exact Za6 ha (Zan hi ev) (q v rv)
theorem ZjH {K:PySem.W.Frag} {H:Hp} {x:V} {ds:List D} {i:Int} {n:Nat} {k:Int} {Q:VK} (h:Rep H (.tup ds) x) (hi:i=(n:Int)) (e:ds[n]?=some (.int k)) (q:Q (.int k) H):rIxA K x (.int i) H Q :=
 Zik h hi e fun v r=>by rw [Zbq r];exact q
theorem Zm4 {H:Hp} {x:V} {ds:List D} (h:Rep H (.tup ds) x):tyN H x=some "tuple":=by
 obtain ⟨a,xs,rfl,ha,r⟩:=ZaW h
 exact ZhB ha
noncomputable def rLen (K:PySem.W.Frag):List V->Hp->VK->Prop:=fun xs H Q=>∃ x n,xs=[x]/\LenV K x H n/\Q (.int n) H
theorem Zk0:Zc9 X (.builtin "len") (rLen X.K):=Zmi
theorem Zbf {K:PySem.W.Frag} {H:Hp} {p:Addr} {ys:List V} {Q:VK} (h:SqL K H p ys) (q:Q (.int ys.length) H):rLen K [.ref p] H Q:=⟨_,_,rfl,.inl ⟨ys,h,rfl⟩,q⟩
noncomputable def rAbs:List V->Hp->VK->Prop:=fun xs H Q=>∃ i,xs=[.int i]/\Q (.int (if i < 0 then -i else i)) H
theorem Zk3:Zc9 X (.builtin "abs") rAbs:=Zmj
theorem rd_abs {H:Hp} {i:Int} {Q:VK} (q:Q (.int (if i < 0 then -i else i)) H):rAbs [.int i] H Q:=⟨i,rfl,q⟩
noncomputable def rInt:List V->Hp->VK->Prop:=fun xs H Q=>(∃ i,xs=[.int i]/\Q (.int i) H)\/∃ k,xs=[.bl k]/\Q (.int (if k then 1 else 0)) H
theorem Zho:Zc9 X (.type "int") rInt:=Zk1
theorem Zns {H:Hp} {k:Bool} {Q:VK} (q:Q (.int (if k then 1 else 0)) H):rInt [.bl k] H Q:=.inr ⟨k,rfl,q⟩
noncomputable def ZjS (K:PySem.W.Frag):List V->Hp->VK->Prop:=fun xs H Q=>∃ p ys,xs=[.ref p]/\((SqL K H p ys/\∀ l,H l=none->Q (.ref l) (upd H l (.tup ys)))\/(SqT K H p ys/\Q (.ref p) H))
theorem ZkZ:Zc9 X (.type "tuple") (ZjS X.K):=ZgM
theorem Zdl {K:PySem.W.Frag} {H:Hp} {p:Addr} {ys:List V} {Q:VK} (h:SqL K H p ys) (q:∀ l,H l=none->Q (.ref l) (upd H l (.tup ys))):ZjS K [.ref p] H Q:=⟨p,ys,rfl,.inl ⟨h,q⟩⟩
theorem ZhM {n:Nat} (h:Nat.ble n 1000=true):n<=sizeLine:=Ze6 (Nat.le_of_ble_eq_true h)
end
section
variable {X:Cx} {K:PySem.W.Frag} {pos:Pos}
theorem k_ix (h:X.K=K):IxR X (rIxA K):=h▸ix_any
theorem Zcu (h:X.K=K):Zc9 X (.builtin "len") (rLen K):=h▸Zk0
theorem Zdr (h:X.K=K):Zc9 X (.type "tuple") (ZjS K):=h▸ZkZ
theorem k_sl (h:X.K=K):SlR X (rSlL K):=h▸Zm8
theorem k_neL (h:X.K=K) (hu:X.A.units+64 < cLine):OpR X (compareOp .NotEq) (rNeL K):=h▸ZmJ hu
theorem k_in (h:X.K=K):OpR X (compareOp .In) (rIn K false):=h▸Zkc
theorem Zn4 (h:X.K=K):OpR X (compareOp .NotIn) (rIn K true):=h▸Zg5
theorem Za4 {tg l:Expr} {tl:TE} (h:X.K=K) (hl:PE X l tl):PI X tg l (Zn6 K tl):=h▸ZnK hl
theorem Ze8 {tg l:Expr} {tl:TE} (h:X.K=K) (hl:PE X l tl):PI X tg l (iTup K tl):=h▸pi_tup hl
theorem Zeo {es:List Expr} {k:Nat} {t:TGs} {n:Nat} (h:X.K=K) (hc:X.calm=true) (hg:PGs X es t)
  (hn:(assignEach es X.env).length=n:=by rfl) (hst:(assignEach es X.env).findIdx? (·.1)=none:=by rfl):PG X (.Tuple es k pos) (gTup K n t):=h▸pg_tup hc hg hn hst
variable {o e:Expr} {es:List Expr} {to:TE} {t:TA} {name:Str} {apos cpos:Pos} {T id:String} {r:V->List V->Hp->VK->Prop}
theorem k_bm (h:X.K=K) (pa:PlainAttrs T) (slot:Slot T name id) (hty:typeOf (.builtin id)=pure (.type "method_descriptor")) (hm:MtR X id r) (ho:PE X o to) (ha:PA X (e::es) t)
  (hbase:attributeBase o name X.env (eval o X.env)=eval o X.env:=by rfl)
  (hfew:((backTo cpos (starEach (e::es) X.env)).all (fun x=>!x.1) && (backToKw cpos (keywordEach [] X.env)).all (fun x=>x.1.isSome)
   && decide ((e::es).length+([]:List Keyword).length+(if ([]:List Keyword).isEmpty then 0 else 1) < 30))=true:=by rfl)
  (hline:(apos.endLine == cpos.line)=true:=by rfl) (hs:starEach (e::es) X.env=(false,eval e X.env)::starEach es X.env:=by rfl) (hplain:(backTo cpos (starEach es X.env)).any (·.1)=false:=by rfl) :
  PE X (.Call (.Attribute o name apos) (e::es) [] cpos) (tBM K T r to t):=h▸pe_bm pa slot hty hm ho ha hbase hfew hline hs hplain
theorem k_bm0 (h:X.K=K) (pa:PlainAttrs T) (slot:Slot T name id) (hty:typeOf (.builtin id)=pure (.type "method_descriptor")) (hm:MtR X id r) (ho:PE X o to)
  (hbase:attributeBase o name X.env (eval o X.env)=eval o X.env:=by rfl) (hline:(apos.endLine == cpos.line)=true:=by rfl):PE X (.Call (.Attribute o name apos) [] [] cpos) (tBM0 K T r to):=h▸pe_bm0 pa slot hty hm ho hbase hline
end
end L2
end
section
namespace L2
open PySem PySem.Spec PyProof.Rows
structure TopFn (K:PySem.W.Frag) (mg:Str->Option Value) (x:Str) (st:Stmt) (ps:List Str):Prop where
 ex:∃ f fd,Fun K x x st f fd/\mg x=some (.ref f)/\Binds K fd ps []
section
variable {P:Program} {w:World} {K:PySem.W.Frag} {mg:Str->Option Value} {base:Heap} {x:Str} {st:Stmt} {ps N:List Str} {sp:Sp} {k:Nat}
theorem TopFn.callee (T:TopFn K mg x st ps) (h:∀ f fd,Fun K x x st f fd->FnOk P w K mg base CX0 k f fd ps sp):Callee P w K mg base x k ps sp:=by
 obtain ⟨f,fd,F,hm,hb⟩:=T.ex
 exact ⟨f,fd,h f fd F,hm,F.kp,hb⟩
noncomputable def sp1 (b:V->Hp->VK->Prop):Sp:=fun vs H Q _=>∃ x,vs=[x]/\b x H Q
noncomputable def sp2 (b:V->V->Hp->VK->Prop):Sp:=fun vs H Q _=>∃ x y,vs=[x,y]/\b x y H Q
noncomputable def sp3 (b:V->V->V->Hp->VK->Prop):Sp:=fun vs H Q _=>∃ x y z,vs=[x,y,z]/\b x y z H Q
theorem use1 {b:V->Hp->VK->Prop} {x:V} {H:Hp} {Q:VK} {E:XK} (h:b x H Q):sp1 b [x] H Q E:=⟨x,rfl,h⟩
theorem use2 {b:V->V->Hp->VK->Prop} {x y:V} {H:Hp} {Q:VK} {E:XK} (h:b x y H Q):sp2 b [x,y] H Q E:=⟨x,y,rfl,h⟩
theorem use3 {b:V->V->V->Hp->VK->Prop} {x y z:V} {H:Hp} {Q:VK} {E:XK} (h:b x y z H Q):sp3 b [x,y,z] H Q E:=⟨x,y,z,rfl,h⟩
noncomputable def Zlb (P:Program) (w:World) (K:PySem.W.Frag) (mg:Str->Option Value) (base:Heap) (N:List Str) (x:Str) (st:Stmt) (f:Addr) (cdv:Value) (A:Around) (outer:List Env) (s:Shared) (H:Hp) (vs:List V) (Q:VK) (E:XK):Prop :=
 ∃ t,PSs (cxOf CX0 P w K mg base N x (Zam st) f cdv A outer s H E).nox (ZbU st) t/\t { nx:=fun _ H'=>Q .non H',rt:=Q } (ZdD N vs) H
theorem TopFn.ok1 {a1:Str} {b:V->Hp->VK->Prop} (T:TopFn K mg x st [a1]) (S:FnScope N [a1] (Zam st))
  (h:∀ (f:Addr) (cdv:Value) (A:Around) (outer:List Env) (s:Shared) (H:Hp) (v1:V) (Q:VK) (E:XK),Room k (A.deeper (envOfC x (Zam st) s.heap.objs.size f cdv))->b v1 H Q->Zlb P w K mg base N x st f cdv A outer s H [v1] Q E):Callee P w K mg base x (k+1) [a1] (sp1 b) :=
 T.callee fun f fd F=>F.ok S (fun vs H Q E ⟨_,e,_⟩=>by rw [e];rfl) fun cdv A outer s H vs Q E hr hsp=>by
  obtain ⟨v1,rfl,hb⟩:=hsp
  exact h f cdv A outer s H v1 Q E hr hb
theorem TopFn.ok2 {a1 a2:Str} {b:V->V->Hp->VK->Prop} (T:TopFn K mg x st [a1,a2]) (S:FnScope N [a1,a2] (Zam st))
  (h:∀ (f:Addr) (cdv:Value) (A:Around) (outer:List Env) (s:Shared) (H:Hp) (v1 v2:V) (Q:VK) (E:XK),Room k (A.deeper (envOfC x (Zam st) s.heap.objs.size f cdv))->b v1 v2 H Q->Zlb P w K mg base N x st f cdv A outer s H [v1,v2] Q E):Callee P w K mg base x (k+1) [a1,a2] (sp2 b) :=
 T.callee fun f fd F=>F.ok S (fun vs H Q E ⟨_,_,e,_⟩=>by rw [e];rfl) fun cdv A outer s H vs Q E hr hsp=>by
  obtain ⟨v1,v2,rfl,hb⟩:=hsp
  exact h f cdv A outer s H v1 v2 Q E hr hb
theorem TopFn.ok3 {a1 a2 a3:Str} {b:V->V->V->Hp->VK->Prop} (T:TopFn K mg x st [a1,a2,a3]) (S:FnScope N [a1,a2,a3] (Zam st))
  (h:∀ (f:Addr) (cdv:Value) (A:Around) (outer:List Env) (s:Shared) (H:Hp) (v1 v2 v3:V) (Q:VK) (E:XK),Room k (A.deeper (envOfC x (Zam st) s.heap.objs.size f cdv))->b v1 v2 v3 H Q->Zlb P w K mg base N x st f cdv A outer s H [v1,v2,v3] Q E):Callee P w K mg base x (k+1) [a1,a2,a3] (sp3 b) :=
 T.callee fun f fd F=>F.ok S (fun vs H Q E ⟨_,_,_,e,_⟩=>by rw [e];rfl) fun cdv A outer s H vs Q E hr hsp=>by
  obtain ⟨v1,v2,v3,rfl,hb⟩:=hsp
  exact h f cdv A outer s H v1 v2 v3 Q E hr hb
theorem Zbl {f:Addr} {cdv:Value} {A:Around} {outer:List Env} {s:Shared} {H:Hp} {vs:List V} {Q:VK} {E:XK} {t:TS} (σ:St) (hσ:ZdD N vs=σ) (h:PSs (cxOf CX0 P w K mg base N x (Zam st) f cdv A outer s H E).nox (ZbU st) t)
  (q:t { nx:=fun _ H'=>Q .non H',rt:=Q } σ H):Zlb P w K mg base N x st f cdv A outer s H vs Q E:=⟨t,h,by rw [hσ];exact q⟩
end
end L2
namespace L2
open PySem PySem.Spec PyProof.Rows
theorem Zhg {b:Bool} {A B:Prop} (h:b=false) (q:B):if b=true then A else B:=by subst h;exact iteF q
theorem ZhS {b:Bool} {A B:Prop} (h:b=true) (q:A):if b=true then A else B:=by subst h;exact iteT q
theorem Zco {c A B:Prop} [Decidable c] (h:¬ c) (q:B):if decide c=true then A else B:=by rw [decide_eq_false h];exact iteF q
theorem Zc7 {c A B:Prop} [Decidable c] (h:c) (q:A):if decide c=true then A else B:=by rw [decide_eq_true h];exact iteT q
theorem ite_ny {c A B:Prop} [Decidable c] (h:¬ c) (q:A):if (!decide c)=true then A else B:=by rw [decide_eq_false h];exact iteT q
theorem ZaS {c A B:Prop} [Decidable c] (h:c->A) (q:¬ c->B):if decide c=true then A else B:=by
 by_cases e:c
 ·exact Zc7 e (h e)
 ·exact Zco e (q e)
theorem ZdJ {c A B:Prop} [Decidable c] (h:¬ c->A) (q:c->B):if (!decide c)=true then A else B:=by
 by_cases e:c
 ·exact ZhT e (q e)
 ·exact ite_ny e (h e)
noncomputable def ZhL (p:Int×Int):D:=.tup [.int p.1,.int p.2]
noncomputable def formD (c:Int) (ps:List (Int×Int)):D:=.tup [.int c,.tup (ps.map ZhL)]
end L2
namespace L2
theorem Zjt {n:Nat} (h:n<=1000000):n<=PySem.sizeLine:=Nat.le_trans h (by rw [PySem.sizeLine_eq];decide)
end L2
namespace L2
theorem iteNT {A B:Prop} (h:B):if (!true)=true then A else B:=iteF h
theorem iteNF {A B:Prop} (h:A):if (!false)=true then A else B:=iteT h
end L2
namespace L2
open PySem
theorem ZkU (ns:List Int) (lo hi:Option Int):∃ ms:List Int,cutV (ns.map V.int) lo hi=ms.map V.int/\ms.length<=ns.length:=by
 refine ⟨(ns.drop (HT.sIx (ns.map V.int).length 0 lo)).take (HT.sIx (ns.map V.int).length (ns.map V.int).length hi - HT.sIx (ns.map V.int).length 0 lo),?_,?_⟩
 ·unfold cutV
  rw [map_take,map_drop]
 ·rw [length_take,length_drop]
  lia
theorem Zcx {K:PySem.W.Frag} {H:Hp} {a:Addr} {xs:List V} {lo hi:Option Int} {Q:VK} (h:SqL K H a xs) (q:∀ p,H p=none->Q (.ref p) (upd H p (.lst (cutV xs lo hi)))):rSlL K (.ref a) lo hi H Q:=⟨a,xs,rfl,h,q⟩
theorem ZmE {H:Hp} {l b:Addr} {xs zs:List V} {Q:VK} (h1:H l=some (.lst xs)) (h2:H b=some (.lst zs)) (hl:xs.length+zs.length<=sizeLine) (q:∀ p,H p=none->Q (.ref p) (upd H p (.lst (xs++zs)))):rCat (.ref l) (.ref b) H Q:=⟨l,b,xs,zs,rfl,rfl,h1,h2,hl,q⟩
theorem ZiC {ns:List Int} {i:Nat} {x:V} (h:(ns.map V.int)[i]?=some x):∃ z,x=.int z/\ns[i]?=some z:=by
 rw [getElem?_map] at h
 obtain ⟨z,e,rfl⟩:=Option.map_eq_some_iff.mp h
 exact ⟨z,rfl,e⟩
theorem Zm3 {H:Hp} {a b:Addr} {o u:HO} (h:H b=some u) (hn:H a=none):upd H a o b=some u:=by rw [Zat (Zbx h hn)];exact h
noncomputable def Zjs (K:PySem.W.Frag):Sp:=sp1 fun x H Q=>∃ (a:Addr) (ns:List Int),x=.ref a/\SqL K H a (ns.map V.int)/\ns.length<=63/\∀ H',Q (.bl true) H'
theorem Zll {K:PySem.W.Frag} {H:Hp} {a:Addr} {ns:List Int} {E:XK} (hl:ns.length<=63) (hS:SqL K H a (ns.map V.int)):Zjs K [.ref a] H (fun v _=>v=.bl true) E:=⟨_,rfl,a,ns,rfl,hS,hl,fun _=>rfl⟩
theorem Fun.law {P:Program} {w:World} {K:PySem.W.Frag} {mg:Str->Option Value} {base:Heap} {st:Stmt} {f:Addr} {fd:FuncData} {N:List Str} {k:Nat} (F:Fun K "law" "law" st f fd) (S:FnScope N ["script"] (Zam st))
  (h:∀ (cdv:Value) (A:Around) (outer:List Env) (s:Shared) (H:Hp) (a:Addr) (ns:List Int) (Q:VK) (E:XK),Room k (A.deeper (PyProof.Rows.envOfC "law" (Zam st) s.heap.objs.size f cdv))->SqL K H a (ns.map V.int)->ns.length<=63->(∀ H',Q (.bl true) H') ->
   Zlb P w K mg base N "law" st f cdv A outer s H [.ref a] Q E):FnOk P w K mg base CX0 (k+1) f fd ["script"] (Zjs K) :=
 F.ok S (fun vs H Q E ⟨_,e,_⟩=>by rw [e];rfl) fun cdv A outer s H vs Q E hr hsp=>by
  obtain ⟨_,rfl,a,ns,rfl,h1,h2,h3⟩:=hsp
  exact h cdv A outer s H a ns Q E hr h1 h2 h3
end L2
namespace L2
theorem ten60:(10:Int) ^ (60:Int).toNat=1000000000000000000000000000000000000000000000000000000000000:=by decide +kernel
theorem ZmW:CPow 10 60:=⟨by decide,by decide,by decide⟩
theorem Zk5 {x:Int} (h:x.natAbs<=10 ^ 70):x.natAbs < 2 ^ 8000:=Nat.lt_of_le_of_lt h (by decide +kernel)
theorem ZkY {x y:Int} (h:x.natAbs<=10 ^ 70) (h2:y.natAbs<=10 ^ 70):CBig x y:=⟨Zk5 h,Zk5 h2⟩
theorem ZgK {x y:Int} (h:0 < y) (h2:y.natAbs<=10 ^ 70):Zoq x y:=⟨h,Zk5 h2⟩
end L2
end
section
namespace L2
open PySem PySem.W PyProof.Rows
noncomputable abbrev xs (n:String) (t:Tok):Value:=.str (Str.ofString n) t
noncomputable abbrev xi (n:Int) (t:Tok):Value:=.int n t
noncomputable abbrev xr (a:Addr):Value:=.ref a
noncomputable abbrev xe (P:Params) (n:String) (t:Tok) (v:Value):DictEntry:=⟨PyData.keyHash P (Str.ofString n),.str (Str.ofString n) t,v⟩
noncomputable abbrev oD (es:Array DictEntry) (n:Nat):Obj:={ cls:=.type "dict",data:=.dict es n }
noncomputable abbrev oT (vs:Array Value):Obj:={ cls:=.type "tuple",data:=.seq vs }
noncomputable abbrev oC (vs:Array Value):Obj:={ cls:=.type "code",data:=.fields vs }
noncomputable abbrev oF (n q:Str) (st:Stmt) (m:String) (t:Tok) (c:Addr):Obj:={ cls:=.type "function",data:=.func (fnOf n q (ZdL st) (ZbU st) (Zam st) .none .none .none (xs m t) none (xr c) .none) }
noncomputable abbrev oG (n:Str) (st:Stmt) (m:String) (t:Tok) (c:Addr):Obj:=oF n n st m t c
noncomputable abbrev xf (P:Params) (n:String) (t:Tok) (a:Addr):DictEntry:=xe P n t (xr a)
noncomputable abbrev oK (n:String) (t l a r:Nat):Obj:=oC #[xs n t,xs n (t+1),xs "/claim/cut.py" (t+2),xi l 0,xi a 0,xi 0 0,xi 0 0,xi 3 0,xr r,.bool true,xi 181 0,xr (r+1),.none,.none,.none,xr (r+2),xi (t+3) 0,xi l 0,xs "/claim/cut.py" (t+4)]
theorem ZiW {p q:Program} {loose:List Str} {Xt:Shared->Bool} {α:Type} {Yf:Shared->α} {Ya:World->α} {N:Nat} (row:String)
  (e:opening p=plainProg p.main.scope.names) (hN:Nat.ble 600 N=true) (f:∀ s,fenceModules? p s=some s)
  (h:∀ (b:Bool) (w:World) (os:OsState),(topFrom treeTable p (w.withFollow row b) N ⟨boot_heap (w.withFollow row b).params,Array.mk [],boot_drawn,boot_toks,os⟩).map (fun s=>(openSeen q loose (importedModules p.main.body) Xt true s,Yf s))=some (openGood q loose,Ya (w.withFollow row b))) :
  LeftO p q loose Xt Yf Ya N:=fun w=>by
 have h':=byRow2 row (P:=fun w=>∀ os,(topFrom treeTable p w N ⟨boot_heap w.params,Array.mk [],boot_drawn,boot_toks,os⟩).map (fun s=>(openSeen q loose (importedModules p.main.body) Xt true s,Yf s))=some (openGood q loose,Ya w)) (fun w=>h false w) (fun w=>h true w) w
 obtain ⟨⟨hp,gs,d,k,os⟩,e1,e2⟩:=Option.map_eq_some_iff.mp (boot_open e hN f w)
 obtain ⟨rfl,rfl,rfl,rfl⟩:hp=boot_heap w.params/\gs=Array.mk []/\d=boot_drawn/\k=boot_toks:=by simpa using e2
 unfold openEnds
 rw [e1]
 exact h' os
theorem top_tw {p:Program} {w:World} {N:Nat} {s₀:Shared} {β:Type} {F:Shared->β} {r:β} {m:Nat} {ann:Option Value}
  (z1:(s₀.heap.isNs mainGlobals && s₀.gens.size == 0)=true) (z2:s₀.heap.objs.size=m) (z3:s₀.heap.nsMap mainGlobals "__annotations__"=ann)
  (h:((PySem.W.Fast.tw14082659384304107361 PySem.W.Fast.tw14364793385576792824 p w m ann N s₀ (topStub p)).bind fun s₁=>match staticsOk (importedModules p.main.body) s₀.heap s₁.heap && namesBound p s₁.heap && gensDone s₁ && laidKept s₀.heap s₁.heap with|true=>some s₁|false=>none).map F=some r) :
  (topFrom treeTable p w N s₀).map F=some r:=by
 unfold topFrom
 rw [z1,z2,z3,PySem.W.Fast.te14082659384304107361,PySem.W.Fast.te14364793385576792824]
 exact h
theorem Zko {p q:Program} {loose:List Str} {Xt:Shared->Bool} {α:Type} {Yf:Shared->α} {Ya:World->α} {N:Nat} (row:String)
  (e:opening p=plainProg p.main.scope.names) (hN:Nat.ble 600 N=true) (f:∀ s,fenceModules? p s=some s)
  (h:∀ (b:Bool) (w:World) (os:OsState),((PySem.W.Fast.tw14082659384304107361 PySem.W.Fast.tw14364793385576792824 p (w.withFollow row b) 11 (some (.ref 6)) N ⟨boot_heap (w.withFollow row b).params,Array.mk [],boot_drawn,boot_toks,os⟩ (topStub p)).bind fun s=>match staticsOk (importedModules p.main.body) (boot_heap (w.withFollow row b).params) s.heap && namesBound p s.heap && gensDone s && laidKept (boot_heap (w.withFollow row b).params) s.heap with|true=>some s|false=>none).map (fun s=>(PySem.W.Fast.tw4187177175401517315 q loose (importedModules p.main.body) Xt true s,Yf s))=some (openGood q loose,Ya (w.withFollow row b))) :
  LeftO p q loose Xt Yf Ya N:=by
 refine ZiW row e hN f fun b w os=>?_
 refine top_tw (m:=11) (ann:=some (.ref 6)) (by kernel_rfl) (by kernel_rfl) (by kernel_rfl) ?_
 rw [PySem.W.Fast.te4187177175401517315]
 exact h b w os
section
variable {K:Frag} {h:Heap} {mg:Str->Option Value} {x m qual:Str} {st:Stmt}
theorem gv {v:Value} (X:K.In h) (G:h.Ns mainGlobals mg) (e:nsIn K mainGlobals x=some (some v):=by kernel_rfl):mg x=some v:=mg_of X G e
theorem gz (X:K.In h) (G:h.Ns mainGlobals mg) (e:nsIn K mainGlobals x=some none:=by kernel_rfl):mg x=none:=mg_none_of X G e
theorem lo (a:Addr) (o:Obj) (e:K.lookup a=some o:=by kernel_rfl):K.lookup a=some o:=e
theorem tf1 {p1:Str} (X:K.In h) (G:h.Ns mainGlobals mg) (f:Addr) (md:String) (t:Tok) (c:Addr) (a:nsIn K mainGlobals x=some (some (.ref f)):=by kernel_rfl) (l:K.lookup f=some (oF x x st md t c):=by kernel_rfl) (cc:codeIn K (xr c) x=true:=by kernel_rfl) (k:keepIn K (.ref f)=true:=by kernel_rfl)
  (b:∀ (kV doc pm:Value) (an:Option Addr) (cdv ct:Value) (u1:Value),bindArgs (fnOf x x (ZdL st) (ZbU st) (Zam st) .none kV doc pm an cdv ct) ⟨[u1],[]⟩=pure [(p1,u1)]:=by intros;kernel_rfl):TopFn K mg x st [p1] :=
 ⟨_,_,ZfC l cc k,mg_of X G a,(ZfC l cc k).binds fun _ _ _ _ _ _ us hl=>match us,hl with|[_],_=>b ..⟩
theorem tf2 {p1 p2:Str} (X:K.In h) (G:h.Ns mainGlobals mg) (f:Addr) (md:String) (t:Tok) (c:Addr) (a:nsIn K mainGlobals x=some (some (.ref f)):=by kernel_rfl) (l:K.lookup f=some (oF x x st md t c):=by kernel_rfl) (cc:codeIn K (xr c) x=true:=by kernel_rfl) (k:keepIn K (.ref f)=true:=by kernel_rfl)
  (b:∀ (kV doc pm:Value) (an:Option Addr) (cdv ct:Value) (u1 u2:Value),bindArgs (fnOf x x (ZdL st) (ZbU st) (Zam st) .none kV doc pm an cdv ct) ⟨[u1,u2],[]⟩=pure [(p1,u1),(p2,u2)]:=by intros;kernel_rfl):TopFn K mg x st [p1,p2] :=
 ⟨_,_,ZfC l cc k,mg_of X G a,(ZfC l cc k).binds fun _ _ _ _ _ _ us hl=>match us,hl with|[_,_],_=>b ..⟩
theorem tf3 {p1 p2 p3:Str} (X:K.In h) (G:h.Ns mainGlobals mg) (f:Addr) (md:String) (t:Tok) (c:Addr) (a:nsIn K mainGlobals x=some (some (.ref f)):=by kernel_rfl) (l:K.lookup f=some (oF x x st md t c):=by kernel_rfl) (cc:codeIn K (xr c) x=true:=by kernel_rfl) (k:keepIn K (.ref f)=true:=by kernel_rfl)
  (b:∀ (kV doc pm:Value) (an:Option Addr) (cdv ct:Value) (u1 u2 u3:Value),bindArgs (fnOf x x (ZdL st) (ZbU st) (Zam st) .none kV doc pm an cdv ct) ⟨[u1,u2,u3],[]⟩=pure [(p1,u1),(p2,u2),(p3,u3)]:=by intros;kernel_rfl):TopFn K mg x st [p1,p2,p3] :=
 ⟨_,_,ZfC l cc k,mg_of X G a,(ZfC l cc k).binds fun _ _ _ _ _ _ us hl=>match us,hl with|[_,_,_],_=>b ..⟩
end
end L2
end
section
namespace L2
open PySem
noncomputable def bagL (l:Addr) (i m st c:Int):List V:=[.ref l,.int i,.int m,.int st,.int c]
structure BagAt (H:Hp) (b l:Addr):Prop where
 ex:∃ (xs:List Int) (i:Nat) (m st c:Int),H b=some (.lst (bagL l i m st c))/\H l=some (.lst (xs.map V.int))/\i<=xs.length/\(0<=m/\m<=10 ^ 60)/\(0<=st/\st < 2147483647)/\(∀ x∈xs,0<=x/\x<=10 ^ 60)/\xs.length<=63
noncomputable def BSame (b:Addr) (H H':Hp):Prop:=∀ a o,a≠b->H a=some o->H' a=some o
theorem BSame.refl (b:Addr) (H:Hp):BSame b H H:=fun _ _ _ h=>h
theorem BSame.trans {b:Addr} {H H1 H2:Hp} (x:BSame b H H1) (y:BSame b H1 H2):BSame b H H2:=fun a o n h=>y a o n (x a o n h)
theorem BSame.of {b:Addr} {H H':Hp} (s:Same H H'):BSame b H H':=fun a o _ h=>s a o h
theorem BSame.wr {b:Addr} {H:Hp} {o:HO}:BSame b H (upd H b o):=fun a u n h=>by rw [Zat n];exact h
theorem BagAt.lst {H:Hp} {b l:Addr} (B:BagAt H b l):∃ xs,H b=some (.lst xs):=let ⟨_,_,_,_,_,h,_⟩:=B.ex;⟨_,h⟩
theorem BSame.ts {b l:Addr} {H H':Hp} (x:BSame b H H') (B:BagAt H b l):TSame H H':=fun a xs e=>by
 obtain ⟨ys,hb⟩:=B.lst
 refine x a _ (fun z=>?_) e
 subst z
 rw [hb] at e
 cases e
theorem BagAt.mono {H H':Hp} {b l:Addr} (B:BagAt H b l) (s:Same H H'):BagAt H' b l:=by
 obtain ⟨xs,i,m,st,c,h1,h2,r⟩:=B.ex
 exact ⟨xs,i,m,st,c,s _ _ h1,s _ _ h2,r⟩
theorem BagAt.wr {H:Hp} {b l q:Addr} {o:HO} (B:BagAt H b l) (h1:b≠q) (h2:l≠q):BagAt (upd H q o) b l:=by
 obtain ⟨xs,i,m,st,c,e1,e2,r⟩:=B.ex
 exact ⟨xs,i,m,st,c,by rw [Zat h1];exact e1,by rw [Zat h2];exact e2,r⟩
theorem BagAt.ne {H:Hp} {b l q:Addr} (B:BagAt H b l) (h:H q=none):b≠q/\l≠q:=by
 obtain ⟨xs,i,m,st,c,e1,e2,r⟩:=B.ex
 exact ⟨Zbx e1 h,Zbx e2 h⟩
theorem BSame.wrNew {b q:Addr} {H H1:Hp} {o:HO} (x:BSame b H H1) (h:H q=none):BSame b H (upd H1 q o):=fun a u n e=>by
 rw [Zat (Zbx e h)]
 exact x a u n e
theorem BSame.free {b q : Addr} {H H1 : Hp} (x : BSame b H H1) (n : q ≠ b) (h : H1 q = none) : H q = none := by
  cases e : H q with
  | none => rfl
  | some o =>
    rw [x q o n e] at h
    cases h
theorem BSame.to {b:Addr} {H H1 H2:Hp} (x:BSame b H H1) (y:Same H1 H2):BSame b H H2:=x.trans (BSame.of y)
inductive drawB (x y:V) (H:Hp) (Q:VK):Prop
 | mk (b l n) (_:x=.ref b) (_:y=.int n) (_:0 < n/\n<=10 ^ 65) (_:BagAt H b l) (_:∀ r H',0<=r->r < n->BagAt H' b l->BSame b H H'->Q (.int r) H'):drawB x y H Q
noncomputable def ZeB:Sp:=sp2 drawB
inductive Pr_number (x:V) (H:Hp) (Q:VK):Prop
 | mk (b l) (_:x=.ref b) (_:BagAt H b l) (_:∀ r H',r.natAbs<=10 ^ 60->BagAt H' b l->BSame b H H'->Q (.int r) H'):Pr_number x H Q
noncomputable def Zeb:Sp:=sp1 (Pr_number)
inductive Pr_bag (K:PySem.W.Frag) (x:V) (H:Hp) (Q:VK):Prop
 | mk (a:Addr) (ns:List Int) (_:x=.ref a) (_:SqL K H a (ns.map V.int)) (_:ns.length<=63) (_:∀ b l H',H b=none->Same H H'->BagAt H' b l->Q (.ref b) H'):Pr_bag K x H Q
noncomputable def sp_bag (K:PySem.W.Frag):Sp:=sp1 (Pr_bag K)
end L2
end
section
namespace L3
open PySem PyProof.Rows
class KOrd where
 kd:SortKind
 good:Keyed->Prop
 kv:Keyed->Int
noncomputable abbrev oneType' [KOrd]:SortKind:=KOrd.kd
noncomputable def IntK [KOrd] (x:Keyed):Prop:=KOrd.good x
noncomputable def kvl [KOrd] (x:Keyed):Int:=KOrd.kv x
noncomputable def K [KOrd] (xs:Array Keyed) (i:Nat):Int:=match xs[i]? with
 | some q=>kvl q
 | none=>0
class KLt [KOrd] (P:Program) (W:World) (A:Around) (E:Value->Shared->Prop) (z:Shared):Prop where
 lt:∀ {u:SortSt} {x y:Keyed} {Q:Option Bool->SortSt->Prop},kindOf u=oneType'->IntK x->IntK y->Q (some (decide (kvl x < kvl y))) u->wpS (model P W) A E z (lt' x y) Q u
section
variable [KOrd]
end
section
variable [KOrd] {P:Program} {W:World} {A:Around} {E:Value->Shared->Prop} {z:Shared} [KLt P W A E z]
noncomputable def bey (left:Bool) (kv:Int) (arr:Array Keyed) (base i:Nat):Bool:=if left then decide (K arr (base+i) < kv) else !decide (kv < K arr (base+i))
end
end L3
end
section
namespace L3
open PySem PyProof.Rows
variable [KOrd]
section
variable {a b out:List Keyed} {ia ib:Nat}
end
section
variable {P:Program} {W:World} {A:Around} {E:Value->Shared->Prop} {z:Shared} [KLt P W A E z]
structure Fr (u v:SortSt):Prop where
 kind:kindOf v=kindOf u
 arr:arrOf v=arrOf u
 pend:pendingOf v=pendingOf u
 failed:failedOf v=failedOf u
end
section
variable {a b out:Array Keyed} {ia ib:Nat}
end
section
variable {P:Program} {W:World} {A:Around} {E:Value->Shared->Prop} {z:Shared} [KLt P W A E z]
end
end L3
end
section
namespace L3
open PySem PyProof.Rows
variable [KOrd]
section
variable {a b out:List Keyed} {na nb:Nat}
end
section
variable {a b out:Array Keyed} {na nb:Nat}
end
section
variable {P:Program} {W:World} {A:Around} {E:Value->Shared->Prop} {z:Shared} [KLt P W A E z]
end
end L3
end
section
namespace L3
open PySem PyProof.Rows
variable [KOrd]
noncomputable def SegS (xs:Array Keyed) (lo n:Nat):Prop:=∀ i j,lo<=i->i<=j->j < lo+n->K xs i<=K xs j
section
variable {P:Program} {W:World} {A:Around} {E:Value->Shared->Prop} {z:Shared} [KLt P W A E z]
end
end L3
end
section
namespace L3
open PySem PyProof.Rows
variable [KOrd]
section
variable {P:Program} {W:World} {A:Around} {E:Value->Shared->Prop} {z:Shared} [KLt P W A E z] {a₀:Array Keyed} {p:Array (Nat×Nat×Nat)}
end
end L3
end
section
namespace L3
open PySem PyProof.Rows
variable [KOrd]
section
variable {P:Program} {W:World} {A:Around} {E:Value->Shared->Prop} {z:Shared} [KLt P W A E z] {a₀:Array Keyed} {p:Array (Nat×Nat×Nat)}
end
noncomputable def Runs (xs:Array Keyed):Nat->List (Nat×Nat×Nat)->Nat->Prop
 | lo,[],hi=>lo=hi
 | lo,r::rs,hi=>r.1=lo/\0 < r.2.1/\SegS xs lo r.2.1/\Runs xs (lo+r.2.1) rs hi
end L3
end
section
namespace L3
open PySem PyProof.Rows
variable [KOrd]
section
variable {u v:SortSt} {sa n:Nat}
end
section
variable {P:Program} {W:World} {A:Around} {E:Value->Shared->Prop} {z:Shared} [KLt P W A E z] {a₀:Array Keyed}
end
end L3
end
section
namespace L2
open PySem PySem.Spec PyProof.Rows
section
variable {P:Program} {W:World} {A:Around} {E:Value->Shared->Prop} {z:Shared}
end
end L2
namespace L2
open PySem
end L2
namespace L2
open PySem
theorem Zlz {td ty tx:TE} {σ:St} {H:Hp} {Q:VK} (h:td σ H fun x H1=>∃ a,x=.ref a/\IsD H1 a/\ty σ H1 fun y H2=>tx σ H2 fun z H3=>∃ o,DGet H3 a y o/\Q (o.getD z) H3):Zmv td ty tx σ H Q:=h
end L2
namespace L2
open PySem
end L2
end
section
namespace L3
open PySem
noncomputable def Up (xs:Array Nat):Prop:=∀ (i j x y:Nat),i < j->xs[i]?=some x->xs[j]?=some y->x < y
structure Tab (t:SetTable):Prop where
 up:Up t.place
 nod:t.dummies=#[]
end L3
end
section
namespace L3
open PySem PyProof.Rows
structure SB (P:Program) (w:World) (h:Heap) (a:Addr) (S:Int->Bool) (led:Bool) (o:Obj) (es:Array (Int×Value)) (ep:Nat) (t:SetTable):Prop where
 here:h.get? a=some o
 ex:o.ExactSet
 dat:o.data=.set es ep t
 el:ElemsOf (intKind P w) es.toList
 mem:∀ k,S k=true↔∃ e∈es.toList,(intKind P w).is k e.2=true
 few:es.size < scanBound
 fit:t.fits es.size=true
 tab:Tab t
 led:t.led=led
section
variable {P:Program} {w:World} {A:Around} {E:Value->Shared->Prop} {s:Shared}
end
section
variable {P:Program} {w:World} {A:Around} {R:Result->Shared->Prop} {I:Addr} {fp wr:List Addr} {G:Array GenState->Array GenState->Prop} {n:Nat} {Pv:Nat->Value->Prop} {St:Nat->Shared->Prop}
end
section
variable {P:Program} {w:World} {A:Around} {E:Value->Shared->Prop} {s:Shared}
end
end L3
end
section
namespace L3
open PySem
section
variable {M:Model} {A:Around} {E:Value->Shared->Prop} {s:Shared}
end
end L3
end
section
namespace L3
open PySem
section
variable {P:Program} {w:World} {A:Around} {E:Value->Shared->Prop} {s:Shared} {it a:Addr} {S:Int->Bool} {led:Bool} {o:Obj} {es:Array (Int×Value)} {ep:Nat} {t:SetTable}
end
end L3
end
section
namespace L3
open PySem PyProof.Rows
section
variable {P:Program} {w:World} {A:Around} {E:Value->Shared->Prop} {s:Shared}
noncomputable def dd (ns:List Int):List Int:=firstMet (fun i=>ns.getD i 0) ns.length
end
end L3
end
section
namespace L2
open PySem PySem.Spec PyProof.Rows
noncomputable def rIsN:R2:=fun x y H Q=>y=.non/\Q (.bl (decide (x=.non))) H
noncomputable def rNotN:R2:=fun x y H Q=>y=.non/\Q (.bl (!decide (x=.non))) H
theorem Zfv {X:Cx}:OpR X (compareOp .Is) rIsN:=op_isN
theorem Zit {X:Cx}:OpR X (compareOp .IsNot) rNotN:=ZnS
theorem rd_isN {x:V} {H:Hp} {Q:VK} (q:Q (.bl (decide (x=.non))) H):rIsN x .non H Q:=⟨rfl,q⟩
theorem Znm {x:V} {H:Hp} {Q:VK} (q:Q (.bl (!decide (x=.non))) H):rNotN x .non H Q:=⟨rfl,q⟩
theorem Zdk (n d k:Nat):HT.sIx n d (some (k:Int))=min k n:=by
 simp only [HT.sIx]
 rw [if_neg (by lia)]
 simp
theorem ZmV {xs:List V} {k:Nat} (h:k<=xs.length):cutV xs none (some (k:Int))=xs.take k:=by
 unfold cutV
 have e1:HT.sIx xs.length 0 none=0:=rfl
 have e2:HT.sIx xs.length xs.length (some (k:Int))=k:=by
  rw [Zdk]
  lia
 rw [e1,e2]
 simp
theorem ZgH {xs:List V} {k:Nat} (h:k<=xs.length):cutV xs (some (k:Int)) none=xs.drop k:=by
 unfold cutV
 have e1:HT.sIx xs.length 0 (some (k:Int))=k:=by
  rw [Zdk]
  lia
 have e2:HT.sIx xs.length xs.length none=xs.length:=rfl
 rw [e1,e2]
 simp [take_of_length_le]
theorem ZkT {xs:List V} {k m:Nat} (h:k<=xs.length) (hm:k<=m):cutV xs (some (k:Int)) (some (m:Int))=(xs.drop k).take (m - k):=by
 unfold cutV
 have e1:HT.sIx xs.length 0 (some (k:Int))=k:=by
  rw [Zdk]
  lia
 have e2:HT.sIx xs.length xs.length (some (m:Int))=min m xs.length:=Zdk _ _ _
 rw [e1,e2]
 by_cases q:m<=xs.length
 ·rw [Nat.min_eq_left q]
 ·rw [Nat.min_eq_right (by lia),take_of_length_le (by simp),take_of_length_le (by simp;lia)]
section
variable {X:Cx}
end
section
variable {X:Cx}
end
theorem Zlu {K:PySem.W.Frag} {H:Hp} {a b:Addr} {xs:List V} {ds:List D} {Q:VK} (h1:SqL K H a xs) (r:Reps H ds xs) (pd:D.pls ds=true) (hd:D.deps ds<=40) (h2:H b=some (.lst [])) (q:Q (.bl (!decide (ds=[]))) H):rNeL K (.ref a) (.ref b) H Q:=by
 refine ⟨a,b,xs,[],ds,[],rfl,rfl,h1,SqL.of h2,r,Zaq,pd,rfl,hd,?_⟩
 have e:eqD (.tup ds) (.tup [])=decide (ds=[]):=by
  by_cases h:ds=[]
  ·subst h
   rw [ZcU]
   simp
  ·rw [Za5 (by intro z;cases z;exact h rfl)]
   simp [h]
 rw [e]
 exact q
end L2
end
section
namespace L2
open PySem PySem.Spec PyProof.Rows
noncomputable def Its (x:Str):It:=⟨fun i _=>i < x.cps.size,fun i H v H'=>H'=H/\∃ c,x.cps[i]?=some c/\v=.str ⟨#[c]⟩,fun i _=>x.cps.size<=i⟩
theorem Zli {P:Program} {w:World} {K:PySem.W.Frag} {tg:Expr} (x:Str) (t:Tok) (it:Addr):Turn P w K tg (Its x) [it] it (fun i h=>h.IsStrIter it "str_ascii_iterator" x t i) where
 mem:=by simp
 obj:=fun i h st b hb=>by
  have e:b=it:=by simpa using hb
  subst e
  obtain ⟨o,e,c,d⟩:=st
  exact ⟨o,e,fun v z=>by rw [d] at z;cases z⟩
 keep:=fun i h h' st k=>by
  obtain ⟨o,e,c,d⟩:=st
  exact ⟨o,k it (by simp) o e,c,d⟩
 item:=by
  intro X hP hw hK hc i pins s σ H E I hf st hg
  subst hP hw hK
  have hg:i < x.cps.size:=hg
  obtain ⟨f0,f1,f2,f3,f4,f5⟩:=hf it (by simp)
  have hx:x.cps[i]?=some x.cps[i]:=Array.getElem?_eq_getElem hg
  refine wpAny_pyNext_ascii_item st hx fun h' st' sb=>?_
  have I1:Inv X pins σ H { s with heap:=h',toks:=s.toks+1 }:=I.turned (t':=s.toks+1) (fun b o hb e=>(sb.2 b hb).trans e) f0 f1 f3 f4 f5
  obtain ⟨o,e,c,d⟩:=id st'
  exact ⟨_,rfl,Zl8 (s:={ s with heap:=h',toks:=s.toks+1 }) e c d (by decide) ⟨.str ⟨#[x.cps[i]]⟩,H,I1,⟨_,rfl⟩,⟨rfl,_,hx,rfl⟩,st',fun b hb=>(hf b hb).1⟩⟩
 done:=by
  intro X hP hw hK hc i pins s σ H E I hf st hg
  subst hP hw hK
  have hg:x.cps.size<=i:=hg
  obtain ⟨f0,f1,f2,f3,f4,f5⟩:=hf it (by simp)
  exact wpAny_pyNext_ascii_end (I.ok.hd hc) st (Array.getElem?_eq_none hg) fun h' eb=>⟨rfl,I.turned (t':=s.toks) (fun b o hb e=>eb b o hb e) f0 f1 f3 f4 f5⟩
 self:=fun _ _ _ _ _ st h=>wpAny_pyIter_striter_ascii st h
section
variable {X:Cx} {tg:Expr}
noncomputable def iStr (tl:TE):TI:=fun σ H R=>tl σ H fun x H1=>∃ z,x=.str z/\z.cps.all (· < 128)=true/\R (Its z) H1
theorem pi_str {l:Expr} {tl:TE} (hl:PE X l tl):PI X tg l (iStr tl):=by
 intro pins s σ H R I h
 refine thn (hl pins s σ H _ I h) fun v s1 ⟨x,H1,I1,r1,q1⟩=>?_
 obtain ⟨z,e,ha,q⟩:=q1
 subst e
 obtain ⟨t,rfl⟩:=r1
 refine wpAny_pyIter_ascii ha ?_
 refine ⟨s1.heap.objs.size,[s1.heap.objs.size],_,_,H1,rfl,I1.kept (t':=s1.toks) fun b o e=>Heap.get?_push_of_some _ e,Zli z t _,⟨_,Heap.get?_push_size _ rfl,rfl,rfl⟩,fun b hb=>?_,q⟩
 have e:b=s1.heap.objs.size:=by simpa using hb
 subst e
 exact I1.fpOk (Nat.le_refl _) (I1.hok.fresh (Nat.le_refl _))
end
theorem ZjI {σ:St} {H:Hp} {R:It->Hp->Prop} {tl:TE} (h:tl σ H fun x H1=>∃ z,x=.str z/\z.cps.all (· < 128)=true/\R (Its z) H1):iStr tl σ H R:=h
theorem ZmU {z:Str} {g:TG} {tt:TT} {te:TE} {Q:VK} {σ:St} {H:Hp} (hz:z.cps.size<=sizeLine) (Pv:Nat->List V->St->Hp->Prop) (h0:Pv 0 [] σ H)
  (hs:∀ i c ys σ H,z.cps[i]?=some c->ys.length<=i->ys.length < sizeLine->Pv i ys σ H->g (.str ⟨#[c]⟩) σ H fun σ2 H3=>tt σ2 H3 fun ok H4=>if ok=true then te σ2 H4 fun y H5=>ys.length < sizeLine/\CN Pv i (ys++[y]) σ2 H5 else CN Pv i ys σ2 H4)
  (hd:∀ ys σ H,ys.length<=z.cps.size->Pv z.cps.size ys σ H->∀ p,H p=none->Q (.ref p) (upd H p (.lst ys))) :
  ∃ W:Nat->Nat->List V->St->Hp->Prop,(∃ m,W 0 m [] σ H)/\CW (Its z) g tt te W Q:=by
 refine Zmg z.cps.size hz Pv h0 (fun i ys σ H hi p=>hi) (fun ys σ H p=>Nat.le_refl _) (fun i x ys σ H H2 hi h1 h2 p y=>?_) hd
 obtain ⟨rfl,c,hc,rfl⟩:=y
 exact hs i c ys σ _ hc h1 h2 p
end L2
end
section
namespace L2
open PySem PySem.Spec PyProof.Rows
end L2
end
section
namespace L2
open PySem PySem.Spec PyProof.Rows
theorem Ziy {X:Cx} {K:PySem.W.Frag} {tg l:Expr} {tl:TE} (h:X.K=K) (hl:PE X l tl):PI X tg l (iStr tl):=pi_str hl
noncomputable def rowD (r:Str×List D):D:=.tup (.str r.1::r.2)
theorem Zg8 : ∀ (more acc : List (Key × V)), ((acc ++ more).map (·.1)).Nodup -> ZeT acc more = acc ++ more
  | [], acc, _ => by rw [append_nil]; rfl
  | q :: more, acc, h => by
    have hv : valV acc q.1 = none := by
      cases e : valV acc q.1 with
      | none => rfl
      | some v =>
        have hm := Zm1 e
        rw [map_append, map_cons] at h
        exact absurd rfl ((nodup_append.mp h).2.2 q.1 hm q.1 mem_cons_self)
    show ZeT (putK acc q.1 q.2) more = acc ++ q :: more
    rw [ZlG _ hv, Zg8 more (acc ++ [(q.1, q.2)]) (by simpa using h)]
    simp
theorem Zfl {c:TT} {t u t2:TS} {D':Ends} {σ:St} {H:Hp} (I:St->Hp->Prop) (hI:∀ σ' H',I σ' H'->t2 D' σ' H') (h:∀ N:St->Hp->Prop,(∀ σ' H',I σ' H'->N σ' H')->tIfS c t u { D' with nx:=N } σ H):tSeq (tIfS c t u) t2 D' σ H :=
 h (t2 D') hI
end L2
end
section
namespace L2
open PySem PySem.Spec PyProof.Rows
section
variable {X:Cx} {C:Addr} {x m:Str} {k:Nat} {ps:List Str} {sp:Sp} {o e:Expr} {es:List Expr} {ta:TE} {t:TA} {apos pos p:Pos}
theorem ZnN {n:Int} (hg:Gl X x) (h:∃ t,X.mg x=some (.int n t)) (hd:(x == ("__debug__":Str))=false:=by decide):PE X (.Name x pos) (tC (.int n)):=by
 obtain ⟨t,h⟩:=h
 exact Zfq hg h ⟨t,rfl⟩ hd
end
section
variable {P:Program} {w:World} {K:PySem.W.Frag} {mg:Str->Option Value} {base:Heap} {x m qual:Str} {st:Stmt} {ps N:List Str} {sp:Sp} {k:Nat} {C:Addr}
end
section
variable {σ:St} {H:Hp} {Q:VK} {K:PySem.W.Frag} {ta tv:TE} {f m:Str} {C a dx:Addr} {fs:List (Str×V)} {v:V}
end
end L2
end
section
namespace L2
open PySem PySem.W PyProof.Rows
section
variable {K:Frag} {h:Heap} {mg:Str->Option Value} {x m qual:Str} {st:Stmt} {C:Addr}
end
end L2
end
section
namespace L2
inductive Ex2 {α0 α1:Type} (p:α0->α1->Prop):Prop
 | mk (a:α0) (b:α1) (h:p a b):Ex2 p
inductive Ex3 {α0 α1 α2:Type} (p:α0->α1->α2->Prop):Prop
 | mk (a:α0) (b:α1) (c:α2) (h:p a b c):Ex3 p
inductive Ex4 {α0 α1 α2 α3:Type} (p:α0->α1->α2->α3->Prop):Prop
 | mk (a:α0) (b:α1) (c:α2) (d:α3) (h:p a b c d):Ex4 p
inductive Ex5 {α0 α1 α2 α3 α4:Type} (p:α0->α1->α2->α3->α4->Prop):Prop
 | mk (a:α0) (b:α1) (c:α2) (d:α3) (e:α4) (h:p a b c d e):Ex5 p
inductive Ex8 {α0 α1 α2 α3 α4 α5 α6 α7:Type} (p:α0->α1->α2->α3->α4->α5->α6->α7->Prop):Prop
 | mk (a:α0) (b:α1) (c:α2) (d:α3) (e:α4) (f:α5) (g:α6) (h:α7) (h:p a b c d e f g h):Ex8 p
inductive Ex10 {α0 α1 α2 α3 α4 α5 α6 α7 α8 α9:Type} (p:α0->α1->α2->α3->α4->α5->α6->α7->α8->α9->Prop):Prop
 | mk (a:α0) (b:α1) (c:α2) (d:α3) (e:α4) (f:α5) (g:α6) (h:α7) (i:α8) (j:α9) (h:p a b c d e f g h i j):Ex10 p
inductive An3 (a b c:Prop):Prop
 | mk (h0:a) (h1:b) (h2:c):An3 a b c
inductive An4 (a b c d:Prop):Prop
 | mk (h0:a) (h1:b) (h2:c) (h3:d):An4 a b c d
inductive An5 (a b c d e:Prop):Prop
 | mk (h0:a) (h1:b) (h2:c) (h3:d) (h4:e):An5 a b c d e
inductive An6 (a b c d e f:Prop):Prop
 | mk (h0:a) (h1:b) (h2:c) (h3:d) (h4:e) (h5:f):An6 a b c d e f
inductive An7 (a b c d e f g:Prop):Prop
 | mk (h0:a) (h1:b) (h2:c) (h3:d) (h4:e) (h5:f) (h6:g):An7 a b c d e f g
inductive An8 (a b c d e f g h:Prop):Prop
 | mk (h0:a) (h1:b) (h2:c) (h3:d) (h4:e) (h5:f) (h6:g) (h7:h):An8 a b c d e f g h
inductive An11 (a b c d e f g h i j k:Prop):Prop
 | mk (h0:a) (h1:b) (h2:c) (h3:d) (h4:e) (h5:f) (h6:g) (h7:h) (h8:i) (h9:j) (h10:k):An11 a b c d e f g h i j k
end L2
end
section
namespace L2
open PySem PySem.Spec PyProof.Rows
noncomputable def Hid (N R:St->Hp->Prop):Prop:=∀ σ' H',R σ' H'->N σ' H'
theorem Zf9 {lo:Int} {n:Nat} {g:TG} {tb:TS} {D:Ends} {σ:St} {H:Hp} (Pv:Nat->St->Hp->Prop) (h0:Pv 0 σ H)
  (hs:∀ i σ H,i < n->Pv i σ H->∀ N:St->Hp->Prop,Hid N (Pv (i+1))->g (.int (lo+i)) σ H fun σ2 H2=>tb { D with nx:=N,ct:=N,bk:=D.nx } σ2 H2) (hd:∀ σ H,Pv n σ H->D.nx σ H) :
  ∃ W:Nat->Nat->St->Hp->Prop,(∃ m,W 0 m σ H)/\∀ i m σ H,W i m σ H ->
   ((Itr lo n).stop i H/\D.nx σ H)\/((Itr lo n).go i H/\∃ N:St->Hp->Prop,(∀ σ' H',N σ' H'->∃ m',m' < m/\W (i+1) m' σ' H')/\∀ x H',(Itr lo n).yld i H x H'->g x σ H' fun σ2 H2=>tb { D with nx:=N,ct:=N,bk:=D.nx } σ2 H2):=ZdK Pv h0 (fun i σ H hi p=>hs i σ H hi p _ fun _ _ x=>x) hd
theorem ZcD {K:PySem.W.Frag} {a:Addr} {xs:List V} {g:TG} {tb:TS} {D:Ends} {σ:St} {H:Hp} (Pv:Nat->St->Hp->Prop) (h0:Pv 0 σ H) (hl:∀ i σ H,i<=xs.length->Pv i σ H->SqL K H a xs)
  (hs:∀ i x σ H,xs[i]?=some x->Pv i σ H->∀ N:St->Hp->Prop,Hid N (Pv (i+1))->g x σ H fun σ2 H2=>tb { D with nx:=N,ct:=N,bk:=D.nx } σ2 H2) (hd:∀ σ H,Pv xs.length σ H->D.nx σ H) :
  ∃ W:Nat->Nat->St->Hp->Prop,(∃ m,W 0 m σ H)/\∀ i m σ H,W i m σ H ->
   ((Itl K a).stop i H/\D.nx σ H)\/((Itl K a).go i H/\∃ N:St->Hp->Prop,(∀ σ' H',N σ' H'->∃ m',m' < m/\W (i+1) m' σ' H')/\∀ x H',(Itl K a).yld i H x H'->g x σ H' fun σ2 H2=>tb { D with nx:=N,ct:=N,bk:=D.nx } σ2 H2):=ZgC Pv h0 hl (fun i x σ H hi p=>hs i x σ H hi p _ fun _ _ x=>x) hd
theorem ZiD {K:PySem.W.Frag} {a:Addr} {xs:List V} {g:TG} {tb:TS} {D:Ends} {σ:St} {H:Hp} (Pv:Nat->St->Hp->Prop) (h0:Pv 0 σ H) (hl:∀ i σ H,i<=xs.length->Pv i σ H->SqT K H a xs)
  (hs:∀ i x σ H,xs[i]?=some x->Pv i σ H->∀ N:St->Hp->Prop,Hid N (Pv (i+1))->g x σ H fun σ2 H2=>tb { D with nx:=N,ct:=N,bk:=D.nx } σ2 H2) (hd:∀ σ H,Pv xs.length σ H->D.nx σ H) :
  ∃ W:Nat->Nat->St->Hp->Prop,(∃ m,W 0 m σ H)/\∀ i m σ H,W i m σ H ->
   ((Itt K a).stop i H/\D.nx σ H)\/((Itt K a).go i H/\∃ N:St->Hp->Prop,(∀ σ' H',N σ' H'->∃ m',m' < m/\W (i+1) m' σ' H')/\∀ x H',(Itt K a).yld i H x H'->g x σ H' fun σ2 H2=>tb { D with nx:=N,ct:=N,bk:=D.nx } σ2 H2):=Zn9 Pv h0 hl (fun i x σ H hi p=>hs i x σ H hi p _ fun _ _ x=>x) hd
theorem Znc {t u:TS} {D':Ends} {σ:St} {H:Hp} (h:let D1:Ends:={ D' with nx:=u D' };t D1 σ H):tSeq t u D' σ H:=h
theorem ZjK {n:Nat} {v:V} {σ:St} {H:Hp} {R:St->Hp->Prop} (h:let σ1:St:=σ.set n (some v);R σ1 H):Zd2 n v σ H R:=h
theorem ZlD {sp:Sp} {dvs:List V} {E:XK} {ta:TA} {σ:St} {H:Hp} {Q:VK} (h:let Q1:VK:=Q;ta σ H fun vs H1=>sp (vs++dvs) H1 Q1 E):ZgY sp dvs E ta σ H Q:=h
section
variable {r:R2} {n m:Nat} {c c' v u:V} {σ:St} {H:Hp} {Q:VK} {ta tb te:TE} {tr:TA} {R:List V->Hp->Prop} {D':Ends} {t t':TS} {g:TG} {us:TS}
theorem Znl (e:σ[n]?=some (some v)) (h:r v c H Q):tOp r (tVar n) (tC c) σ H Q:=⟨v,e,h⟩
theorem Znk (e:σ[n]?=some (some v)) (e':σ[m]?=some (some u)) (h:r v u H Q):tOp r (tVar n) (tVar m) σ H Q:=⟨v,e,u,e',h⟩
theorem rd_opV (e:σ[n]?=some (some v)) (h:tb σ H fun y H2=>r v y H2 Q):tOp r (tVar n) tb σ H Q:=⟨v,e,h⟩
theorem rd_opC (h:tb σ H fun y H2=>r c y H2 Q):tOp r (tC c) tb σ H Q:=h
theorem ZjM (e:σ[n]?=some (some v)) (h:R [v] H):Zc0 (tVar n) tNil σ H R:=⟨v,e,h⟩
theorem ZjN (h:R [c] H):Zc0 (tC c) tNil σ H R:=h
theorem ZlA (e:σ[n]?=some (some v)) (h:tr σ H fun xs H2=>R (v::xs) H2):Zc0 (tVar n) tr σ H R:=⟨v,e,h⟩
theorem ZlB (h:tr σ H fun xs H2=>R (c::xs) H2):Zc0 (tC c) tr σ H R:=h
theorem Zne (h:let D1:Ends:={ D' with nx:=us D' };te σ H fun x H1=>g x σ H1 D1.nx):tSeq (tAsg te g) us D' σ H:=h
theorem Znd (h:let D1:Ends:={ D' with nx:=us D' };ta σ H fun x H'=>∃ k,x=.bl k/\if k=true then t D1 σ H' else t' D1 σ H'):tSeq (tIfS (ZiO ta) t t') us D' σ H:=h
theorem rd_ifT (h:ta σ H fun x H'=>∃ k,x=.bl k/\if k=true then t D' σ H' else t' D' σ H'):tIfS (ZiO ta) t t' D' σ H:=h
theorem Znf (e:σ[n]?=some (some v)) (h:D'.rt v H):tRet (tVar n) D' σ H:=⟨v,e,h⟩
theorem Zng (h:D'.rt c H):tRet (tC c) D' σ H:=h
theorem Znx {i j:Int} {B:Bool->Hp->Prop} (h:B (decide (i=j)) H):rEq (.int i) (.int j) H (fun x H'=>∃ k,x=.bl k/\B k H'):=ZjL (Zgq h)
theorem Zno {i j:Int} {B:Bool->Hp->Prop} (h:B (!decide (i=j)) H):rNe (.int i) (.int j) H (fun x H'=>∃ k,x=.bl k/\B k H'):=ZmB (Zgq h)
theorem Znw {i j:Str} {B:Bool->Hp->Prop} (h:B (decide (i=j)) H):rEq (.str i) (.str j) H (fun x H'=>∃ k,x=.bl k/\B k H'):=ZmC (Zgq h)
theorem Znn {i j:Str} {B:Bool->Hp->Prop} (h:B (!decide (i=j)) H):rNe (.str i) (.str j) H (fun x H'=>∃ k,x=.bl k/\B k H'):=ZmA (Zgq h)
end
end L2
end
section
namespace L2
open PySem PySem.Spec PyProof.Rows
noncomputable def CTup (K:PySem.W.Frag) (a:Addr) (xs:List V):Prop:=∃ (o:Obj) (its:Array Value) (n:Nat),K.lookup a=some o/\o.cls=.type "tuple"/\o.data=.seq its n/\its.size<=sizeLine/\Vals xs its.toList
theorem CTup.sq {K:PySem.W.Frag} {a:Addr} {xs:List V} (h:CTup K a xs) (H:Hp):SqT K H a xs:=.inr h
noncomputable def entC (w:World) (q:Str×Tok×Addr):DictEntry:=⟨hashStr w q.1,.str q.1 q.2.1,.ref q.2.2⟩
noncomputable def CDat (K:PySem.W.Frag) (w:World) (a:Addr) (tb:List (Str×List Str)):Prop :=
 (a == sysModules)=false/\(tb.map (·.1)).Nodup/\∃ (rows:List (Str×Tok×Addr)) (ep:Nat),K.lookup a=some { cls:=.type "dict",data:=.dict (rows.map (entC w)).toArray ep } /\
  Paired (fun (p:Str×List Str) (q:Str×Tok×Addr)=>p.1=q.1/\CTup K q.2.2 (p.2.map V.str)) tb rows
theorem Zol {K : PySem.W.Frag} {tb : List (Str × List Str)} {rows : List (Str × Tok × Addr)} (h : Paired (fun (p : Str × List Str) (q : Str × Tok × Addr) => p.1 = q.1 /\ CTup K q.2.2 (p.2.map V.str)) tb rows) (x : Str) :
    (tb.lookup x = none /\ valueAt (rows.map fun q => ((Sum.inr q.1 : Key), Value.ref q.2.2)) (Sum.inr x) = none) \/ ∃ ks a, tb.lookup x = some ks /\ CTup K a (ks.map V.str) /\ valueAt (rows.map fun q => ((Sum.inr q.1 : Key), Value.ref q.2.2)) (Sum.inr x) = some (.ref a) := by
  induction h with
  | nil => exact .inl ⟨rfl, rfl⟩
  | @cons p q ps qs hq t ih =>
    obtain ⟨p1, p2⟩ := p
    obtain ⟨q1, qt, qa⟩ := q
    obtain ⟨e, c⟩ := hq
    dsimp only at e c
    subst e
    by_cases z : x = p1
    · subst z
      refine .inr ⟨p2, qa, by simp [List.lookup], c, ?_⟩
      simp [valueAt]
    · have z1 : (x == p1) = false := by simpa using z
      have z2 : ¬ p1 = x := fun w => z w.symm
      have e1 : List.lookup x ((p1, p2) :: ps) = List.lookup x ps := by simp [List.lookup, z1]
      have e2 : valueAt (((p1, qt, qa) :: qs).map fun q => ((Sum.inr q.1 : Key), Value.ref q.2.2)) (Sum.inr x) = valueAt (qs.map fun q => ((Sum.inr q.1 : Key), Value.ref q.2.2)) (Sum.inr x) := by
        simp [valueAt, z2]
      rw [e1, e2]
      exact ih
theorem ZgL {P : Program} {w : World} : ∀ (rows : List (Str × Tok × Addr)), Pairs (Zbt P w) (rows.map (entC w)) (rows.map fun q => ((Sum.inr q.1 : Key), Value.ref q.2.2))
  | [] => .nil
  | q :: rows => by
    rw [map_cons, map_cons]
    exact .cons (Zdp P w q.1 q.2.1) rfl (ZgL rows)
theorem CDat.dict {P:Program} {w:World} {K:PySem.W.Frag} {h:Heap} {a:Addr} {tb:List (Str×List Str)} (c:CDat K w a tb) (hk:K.In h):∃ vs,h.DictOf (Zbt P w) a vs /\
  ∀ x,(tb.lookup x=none/\valueAt vs (Sum.inr x)=none)\/∃ ks b,tb.lookup x=some ks/\CTup K b (ks.map V.str)/\valueAt vs (Sum.inr x)=some (.ref b):=by
 obtain ⟨hs,nd,rows,ep,hl,pr⟩:=c
 refine ⟨rows.map fun q=>((Sum.inr q.1:Key),Value.ref q.2.2),⟨_,_,ep,hk a _ hl,⟨rfl,rfl,rfl⟩,rfl,?_,by simpa using ZgL rows,?_⟩,Zol pr⟩
 ·intro e he
  have he:e∈rows.map (entC w):=by simpa using he
  obtain ⟨q,hq,rfl⟩:=mem_map.mp he
  exact ⟨.inr q.1,Zdp P w q.1 q.2.1,rfl⟩
 ·have e:rows.map (·.1)=tb.map (·.1):=by
   clear hl nd
   induction pr with
   | nil=>rfl
   | cons hq t ih=>rw [map_cons,map_cons,ih,hq.1]
  rw [map_map]
  have:(rows.map (·.1)).Nodup:=e▸nd
  have e2:rows.map ((fun x:Key×Value=>x.1) ∘ fun q:Str×Tok×Addr=>((Sum.inr q.1:Key),Value.ref q.2.2))=(rows.map (·.1)).map Sum.inr:=by rw [map_map];rfl
  rw [e2]
  exact List.Pairwise.map _ (fun a b z z'=>z (Sum.inr.inj z')) this
noncomputable def ZmG (K:PySem.W.Frag) (w:World) (tb:List (Str×List Str)):R2:=fun x y H Q=>∃ a k,x=.str k/\y=.ref a/\CDat K w a tb/\Q (.bl (!(tb.lookup k).isSome)) H
section
variable {X:Cx} {o i e value:Expr} {pos pos' tpos:Pos} {td ty tv:TE} {x:Str} {K:PySem.W.Frag} {w:World} {tb:List (Str×List Str)}
theorem ZlT (hK:X.K=K) (hw:X.w=w):OpR X (compareOp .NotIn) (ZmG K w tb):=by
 subst hK;subst hw
 intro pins s σ H x y v u Q I rx ry h
 obtain ⟨a,k,rfl,rfl,c,q⟩:=h
 obtain rfl:u=Value.ref a:=ry
 obtain ⟨vs,dd,hf⟩:=c.dict (P:=X.prog) I.kIn
 refine wpAny_notIn_of (Zku (k:=Sum.inr k) rx) c.1 dd.mapOf ?_
 refine ⟨.bl (!(tb.lookup k).isSome),H,I.tok _,?_,q⟩
 rcases hf k with ⟨e1,e2⟩|⟨ks,b,e1,_,e2⟩
 ·rw [e1,e2];rfl
 ·rw [e1,e2];rfl
end
theorem Zlt {K:PySem.W.Frag} {w:World} {tb:List (Str×List Str)} {a:Addr} {k:Str} {H:Hp} {Q:VK} (c:CDat K w a tb) (h:Q (.bl (!(tb.lookup k).isSome)) H):ZmG K w tb (.str k) (.ref a) H Q:=⟨a,k,rfl,rfl,c,h⟩
noncomputable def ZmS (p:Addr) (Q:VK) (ps:List (V×V)) (H2:Hp):Prop:=H2 p=some (.dK [])/\∃ kvs:List (Key×V),ps=kvs.map (fun kv=>(kV kv.1,kv.2))/\kvs.length<=15/\Q (.ref p) (upd H2 p (.dK (ZeT [] kvs)))
theorem Zly {trs:List (TE×TE)} {σ:St} {H:Hp} {Q:VK} (h:∀ p,H p=none->Zfd trs σ (upd H p (.dK [])) (ZmS p Q)):tDisp trs σ H Q:=h
theorem Zls {tk tv:TE} {r:List (TE×TE)} {σ:St} {H:Hp} {Q:List (V×V)->Hp->Prop} (h:tk σ H fun x H1=>tv σ H1 fun y H2=>Zfd r σ H2 fun ps H3=>Q ((x,y)::ps) H3):Zfd ((tk,tv)::r) σ H Q:=h
theorem Zni {σ:St} {H:Hp} {Q:List (V×V)->Hp->Prop} (h:Q [] H):Zfd [] σ H Q:=h
theorem Zoh {p:Addr} {Q:VK} {H2:Hp} {ps:List (V×V)} (kvs:List (Key×V)) (e:ps=kvs.map fun kv=>(kV kv.1,kv.2)) (h:H2 p=some (.dK [])) (n:(kvs.map (·.1)).Nodup) (h15:kvs.length<=15) (q:Q (.ref p) (upd H2 p (.dK kvs))):ZmS p Q ps H2 :=
 ⟨h,kvs,e,h15,by rw [Zg8 _ _ (by simpa using n)];exact q⟩
end L2
end
section
namespace L2
open PySem PySem.Spec PyProof.Rows
section
variable {X:Cx}
noncomputable def rSlS:V->Option Int->Option Int->Hp->VK->Prop:=fun x lo hi H Q=>∃ z,x=.str z/\z.length<=sizeLine/\Q (.str (Txt.slice z lo hi)) H
theorem Zj3 {v:Value} {o:Option Int} (h:IsPart v o):∃ l:Option (Int×Tok),v=partValue l/\l.map (·.1)=o:=by
 cases h with
 | none=>exact ⟨none,rfl,rfl⟩
 | int i t=>exact ⟨some (i,t),rfl,rfl⟩
theorem Zdz:SlR X rSlS:=by
 intro pins s σ H x v vl vu lo hi sl Q I rx hs pl pu h
 obtain ⟨z,rfl,hz,q⟩:=h
 obtain ⟨t,rfl⟩:=rx
 obtain ⟨l,rfl,rfl⟩:=Zj3 pl
 obtain ⟨u,rfl,rfl⟩:=Zj3 pu
 refine ⟨"str",_,PySem.F.slot_str_getitem.lookup,typeIs_str s z t,?_⟩
 refine wpAny_getItem_str_slice (l:=l) (u:=u) (st:=none) hs (by decide) ?_
 have fin:∀ t' tk,EP X pins σ Q (.str (Txt.slice z (l.map (·.1)) (u.map (·.1))) t') { s with toks:=tk }:=fun t' tk=>⟨.str _,H,I.tok _,⟨_,rfl⟩,q⟩
 exact post_val_or_str ⟨Nat.le_trans (Txt.slice_le z _ _) hz,fun t' k=>fin t' k⟩
noncomputable def repS (z:Str) (n:Int):Str:=if n < 1 then Str.empty else if (n == 1 || z.length == 0)=true then z else ⟨(List.replicate n.toNat z.cps).foldl (·++·) #[]⟩
noncomputable def rRepS:R2:=fun x y H Q=>∃ z n,x=.str z/\y=.int n/\-1000<=n/\n<=1000/\z.length<=1000/\(repS z n).length<=sizeLine/\Q (.str (repS z n)) H
theorem Zdo:OpR X (binaryOp .Mult) rRepS:=by
 intro pins s σ H x y v u Q I rx ry h
 obtain ⟨z,n,rfl,rfl,h1,h2,h3,h4,q⟩:=h
 obtain ⟨t,rfl⟩:=rx
 obtain ⟨t',rfl⟩:=ry
 have hp:¬ n < 1->z.length * n.toNat<=1000000:=fun _=>by
  have:=Nat.mul_le_mul h3 (show n.toNat<=1000 by lia)
  lia
 refine PySem.P.mul_str (by rw [decide_eq_false (by lia),decide_eq_false (by lia)];rfl) (fun a _ b=>?_) (fun a _=>?_) ?_
 ·have h5:((z.length:Int))<=(2 ^ 63 - 1) / n:=by
   rw [Int.le_ediv_iff_mul_le (by lia)]
   have h6:=hp a
   have h7:(z.length:Int) * n=((z.length * n.toNat:Nat):Int):=by rw [Int.natCast_mul,Int.toNat_of_nonneg (by lia)]
   rw [h7]
   lia
  lia
 ·have h6:=hp a
  first
   | exact decide_eq_false (by lia)
   | (unfold Builtin.Str.tooLong;rw [decide_eq_false];rw [sizeLine_eq];lia)
   | (simp [Builtin.Str.tooLong];lia)
 ·unfold repS at h4 q
  by_cases a:n < 1
  ·rw [if_pos a] at h4 q ⊢
   exact ⟨h4,.str _,H,I.tok _,⟨_,rfl⟩,q⟩
  ·rw [if_neg a] at h4 q ⊢
   by_cases b:(n == 1 || z.length == 0)=true
   ·rw [if_pos b] at h4 q ⊢
    exact ⟨.str _,H,I,⟨_,rfl⟩,q⟩
   ·rw [if_neg b] at h4 q ⊢
    exact ⟨h4,.str _,H,I.tok _,⟨_,rfl⟩,q⟩
theorem Zjn : ∀ {us : List Value} {zs : List Str}, Vals (zs.map V.str) us -> StrsAre us zs
  | [], [], _ => .nil
  | [], z :: zs, h => by cases h
  | u :: us, [], h => by cases h
  | u :: us, z :: zs, h => by
    cases h with
    | cons r1 r2 =>
      obtain ⟨t, rfl⟩ := r1
      exact .cons z t (Zjn r2)
noncomputable def ZlF (K:PySem.W.Frag):V->List V->Hp->VK->Prop:=fun x vs H Q=>∃ z a zs,x=.str z/\vs=[.ref a]/\SqL K H a ((zs:List Str).map V.str)/\z.length<=16/\(zs.map (·.length)).sum+zs.length<=1048576/\Q (.str (Txt.join z zs)) H
theorem ZnX:MtR X "str.join" (ZlF X.K):=by
 intro pins s σ H x vs v us Q I rx rv h
 obtain ⟨z,a,zs,rfl,rfl,ha,hl,hw,q⟩:=h
 obtain ⟨t,rfl⟩:=rx
 obtain ⟨u,rfl,ru⟩:=rv.one
 cases ru
 obtain ⟨its,vx,ht,_⟩:=I.list ha
 exact join_listW ht.isList (by simpa using Zjn vx) hl hw fun t' k=>⟨.str _,H,I.tok _,⟨_,rfl⟩,q⟩
end
end L2
end
section
namespace L2
open PySem PySem.Spec PyProof.Rows
section
variable {X:Cx}
noncomputable def rAll (K:PySem.W.Frag):List V->Hp->VK->Prop:=fun xs H Q=>∃ (a:Addr) (bs:List Bool),xs=[.ref a]/\SqL K H a (bs.map V.bl)/\Q (.bl (bs.all id)) H
theorem Zk7 (bs:List Bool):(List.range bs.length).all (fun i=>bs.getD i false)=bs.all id:=by
 rw [Bool.eq_iff_iff,all_eq_true,all_eq_true]
 constructor
 ·intro h b hb
  obtain ⟨j,hj,rfl⟩:=getElem_of_mem hb
  have:=h j (mem_range.mpr hj)
  simpa [hj] using this
 ·intro h j hj
  have hj:=mem_range.mp hj
  have:=h bs[j] (getElem_mem hj)
  simpa [hj] using this
theorem Zk2 (hc:X.calm=true):Zc9 X (.builtin "all") (rAll X.K):=by
 intro pins s σ H xs us Q I r h
 obtain ⟨a,bs,rfl,ha,q⟩:=h
 obtain ⟨u,rfl,ru⟩:=ZgV r
 cases ru
 obtain ⟨its,vx,ht,_⟩:=I.list ha
 have hlen:=vx.length
 rw [length_map] at hlen
 have hlt:a < s.heap.objs.size:=by obtain ⟨_,e,_⟩:=ht.isList;exact Heap.lt_size e
 refine call_all_walk (wpAny_pyIter_list ht.isList ?_)
 refine ⟨_,_,_,_,_,_,fun i=>bs.getD i false,rfl,Walks.list (A:=X.A.in1) (I.ok.hd hc) _ a (Nat.ne_of_lt hlt) its.toArray,⟨⟨_,Heap.get?_push_size _ rfl,rfl,rfl⟩,ht.isList.push _⟩,?_,fun h' tk hk=>?_⟩
 ·intro i v s' Q' E' hv hq
  have hv':its[i]?=some v:=by simpa using hv
  have hi:=(List.getElem?_eq_some_iff.mp hv').1
  have hib:i < bs.length:=by lia
  obtain ⟨u',eu,ru⟩:=vx.get (i:=i) (x:=.bl bs[i]) (by rw [getElem?_map,getElem?_eq_getElem hib];rfl)
  rw [hv'] at eu
  cases eu
  cases ru
  have e:bs.getD i false=bs[i]:=by simp [hib]
  have hq:Q' (bs.getD i false) s':=hq
  rw [e] at hq
  exact wpAny_truthy_bool hq
 ·have hsz:its.toArray.size=bs.length:=by simp;lia
  rw [hsz,Zk7]
  refine ⟨.bl _,H,I.kept fun b o e=>?_,rfl,q⟩
  refine hk b o (fun hm=>?_) (Heap.get?_push_of_some _ e)
  have:b=s.heap.objs.size:=by simpa using hm
  rw [this] at e
  exact absurd (Heap.lt_size e) (Nat.lt_irrefl _)
theorem k_all {K:PySem.W.Frag} (h:X.K=K) (hc:X.calm=true):Zc9 X (.builtin "all") (rAll K):=h▸Zk2 hc
end
end L2
end
section
namespace L2
open PySem
inductive Rw where
 | put (p n:Int)|copy (p q:Int)|plus (p q r:Int)|less (p q r:Int)|times (p q n:Int)|take (p:Int)|tell (p:Int)|jump (t:Int)|zero (p t:Int)|below (p t:Int)|call (p f:Int) (qs:List Int)|back (p:Int)
noncomputable def Rw.row:Rw->Str×List D
 | .put p n=>("put",[.int p,.int n])
 | .copy p q=>("copy",[.int p,.int q])
 | .plus p q r=>("plus",[.int p,.int q,.int r])
 | .less p q r=>("less",[.int p,.int q,.int r])
 | .times p q n=>("times",[.int p,.int q,.int n])
 | .take p=>("take",[.int p])
 | .tell p=>("tell",[.int p])
 | .jump t=>("jump",[.int t])
 | .zero p t=>("zero",[.int p,.int t])
 | .below p t=>("below",[.int p,.int t])
 | .call p f qs=>("call",[.int p,.int f,.tup (qs.map D.int)])
 | .back p=>("back",[.int p])
structure Df where
 takes:Int
 boxes:Int
 rows:List Rw
inductive En where
 | back (n:Int)|dry (f at':Int)|deep (f at':Int)
noncomputable def En.d:Option En->D
 | none=>.non
 | some (.back n)=>.tup [.str "back",.int n]
 | some (.dry f a)=>.tup [.str "dry",.int f,.int a]
 | some (.deep f a)=>.tup [.str "deep",.int f,.int a]
noncomputable abbrev Fr:=Int×Int×List Int
structure HS where
 frames:List Fr
 left:List Int
 news:List Int
 gone:Int
 fin:Option En
noncomputable def rowsD (rs:List Rw):List D:=rs.map fun r=>rowD r.row
noncomputable def DfAt (own:List Addr) (H:Hp) (d:Df) (v:V):Prop:=∃ t q ys,v=.ref t/\H t=some (.tup [.int d.takes,.int d.boxes,.ref q])/\H q=some (.lst ys)/\q∉own/\Reps H (rowsD d.rows) ys
noncomputable def PgAt (own:List Addr) (H:Hp) (P:List Df) (pp:Addr):Prop:=∃ vs,H pp=some (.lst vs)/\pp∉own/\vs.length=P.length/\∀ (i:Nat) (d:Df) (v:V),P[i]?=some d->vs[i]?=some v->DfAt own H d v
end L2
end
section
namespace L2
open PySem
noncomputable def hflds (a b c d e f:V):List (Str×V):=[("program",a),("frames",b),("news",c),("gone",d),("left",e),("end",f)]
section
variable {a b c d e f v:V}
end
noncomputable def AllAt (H:Hp) (l:List (Addr×HO)):Prop:=∀ e∈l,H e.1=some e.2
noncomputable abbrev FZ:=(Addr×Addr)×Fr
noncomputable def frObj (z:FZ):List (Addr×HO):=[(z.1.1,.lst [.int z.2.1,.int z.2.2.1,.ref z.1.2]),(z.1.2,.lst (z.2.2.2.map V.int))]
noncomputable def hObjs (C p dx pp pf pn pl:Addr) (fz:List FZ) (h:HS) (ve:V):List (Addr×HO) :=
 [(p,.ins C dx (hflds (.ref pp) (.ref pf) (.ref pn) (.int h.gone) (.ref pl) ve)),(pf,.lst (fz.map fun z=>V.ref z.1.1)),(pn,.lst (h.news.map V.int)),(pl,.lst (h.left.map V.int))]++fz.flatMap frObj
noncomputable def ownA (p pf pn pl:Addr) (fz:List FZ):List Addr:=[p,pf,pn,pl]++fz.flatMap fun z=>[z.1.1,z.1.2]
structure HA (C p dx pp pf pn pl:Addr) (fz:List FZ) (H:Hp) (P:List Df) (h:HS) (ve:V):Prop where
 all:AllAt H (hObjs C p dx pp pf pn pl fz h ve)
 nd:(ownA p pf pn pl fz).Nodup
 en:Rep H (En.d h.fin) ve
 pg:PgAt (ownA p pf pn pl fz) H P pp
 fr:fz.map (·.2)=h.frames
section
variable {C p dx pp pf pn pl:Addr} {fz:List FZ} {H:Hp} {P:List Df} {h:HS} {ve:V}
end
end L2
end
section
namespace L2
open PySem
theorem Zdu {α:Type} {l:List α} {x:α}:atI (l++[x]) (-1)=some x:=by
 unfold atI ixN
 rw [if_neg (by lia),if_pos (by simp;lia)]
 simp
 rw [show (-1+((l.length:Int)+1)).toNat=l.length by lia]
 simp
section
variable {C p dx pp pf pn pl:Addr} {fz:List FZ} {z:FZ} {H:Hp} {P:List Df} {h:HS} {ve:V}
end
end L2
end
section
namespace L2
open PySem PySem.Spec PyProof.Rows
section
variable {X:Cx} {pins:List (Addr×Obj)} {σ:St} {H:Hp} {s:Shared} {h':Heap}
end
section
variable {X:Cx} {tg:Expr}
end
end L2
end
section
namespace L2
open PySem PySem.Spec PyProof.Rows
section
variable {X:Cx} {pins:List (Addr×Obj)} {σ:St} {H:Hp} {s:Shared}
end
section
variable {X:Cx}
end
end L2
end
section
namespace L2
open PySem
section
variable {P:List Df} {h:HS}
end
end L2
end
section
namespace L2
open PySem
section
variable {kp own:List Addr} {H0 H H':Hp}
theorem apart {own own' oth:List Addr} (new:∀ x∈own',x∈own\/H x=none) (d:∀ x∈oth,x∉own) (al:∀ x∈oth,H x≠none):∀ x∈oth,x∉own':=fun x hx m=>by
 rcases new x m with h|h
 ·exact d x hx h
 ·exact al x hx h
end
section
variable {kp own:List Addr} {H0 H H':Hp} {P:List Df} {pp:Addr}
end
end L2
end
section
namespace L2
open PySem PySem.Spec PyProof.Rows
noncomputable def Seqs (H:Hp) (x y:V) (xs ys:List V):Prop:=∃ a b,x=.ref a/\y=.ref b/\((H a=some (.tup xs)/\H b=some (.tup ys))\/(H a=some (.lst xs)/\H b=some (.lst ys)))
noncomputable def simV:V->Prop
 | .byt _=>False
 | .flt _=>False
 | .ty _=>False
 | _=>True
noncomputable def Alike (H:Hp):Nat->V->V->Prop
 | 0,x,y=>x=y/\simV x
 | n+1,x,y=>(x=y/\simV x)\/∃ xs ys,Seqs H x y xs ys/\xs.length=ys.length/\∀ (j:Nat) (u v:V),xs[j]?=some u->ys[j]?=some v->Alike H n u v
theorem Alike.up {H : Hp} : ∀ {n : Nat} {x y : V}, Alike H n x y -> Alike H (n + 1) x y
  | 0, x, y, h => .inl h
  | n + 1, x, y, h => by
    rcases h with h | ⟨xs, ys, s, l, k⟩
    · exact .inl h
    · exact .inr ⟨xs, ys, s, l, fun j u v e1 e2 => (k j u v e1 e2).up⟩
theorem Alike.le {H : Hp} {n m : Nat} {x y : V} (h : Alike H n x y) (l : n <= m) : Alike H m x y := by
  induction m with
  | zero => obtain rfl : n = 0 := by lia
            exact h
  | succ m ih =>
    by_cases e : n = m + 1
    · subst e; exact h
    · exact (ih (by lia)).up
theorem Alike.refl {H:Hp} (n:Nat) {x:V} (f:simV x):Alike H n x x:=Alike.le (n:=0) ⟨rfl,f⟩ (Nat.zero_le _)
section
variable {X:Cx} {pins:List (Addr×Obj)} {σ:St} {H:Hp} {s:Shared}
theorem ZcJ {xs:List V} {its:List Value} (vx:Vals xs its) {j:Nat} (h:j < its.toArray.size):∃ x,xs[j]?=some x/\RelV x its.toArray[j]:=by
 have l1:=vx.length
 have h':j < its.length:=by simpa using h
 have e1:xs[j]?=some (xs[j]'(by lia)):=getElem?_eq_getElem _
 obtain ⟨u1,z1,w1⟩:=vx.get e1
 have y1:its.toArray[j]=u1:=by
  have:its[j]?=some its[j]:=getElem?_eq_getElem h'
  rw [z1] at this
  simpa using (Option.some.inj this).symm
 exact ⟨_,e1,by rw [y1];exact w1⟩
theorem Zg4 (I:Inv X pins σ H s) {A:Around} {a b:Addr} {xs ys:List V} (h:(H a=some (.tup xs)/\H b=some (.tup ys))\/(H a=some (.lst xs)/\H b=some (.lst ys))) (hl:xs.length=ys.length) (hu:A.units < cLine)
  (k:∀ (j:Nat) (u v:V) (u' v':Value),xs[j]?=some u->ys[j]?=some v->RelV u u'->RelV v v'->SeqAt.EqAt A.in1 s u' v' true):SeqAt.RcAt A s (.ref a) (.ref b) true:=by
 rcases h with ⟨ha,hb⟩|⟨ha,hb⟩
 ·obtain ⟨its,vx,ht⟩:=I.isTup ha
  obtain ⟨its',vy,ht'⟩:=I.isTup hb
  have l1:=vx.length
  have l2:=vy.length
  have key:=SeqAt.RcAt.tuples (A:=A) (e:=fun _=>true) ht ht' hu fun j j1 j2=>by
   obtain ⟨x,e1,r1⟩:=ZcJ vx j1
   obtain ⟨y,e2,r2⟩:=ZcJ vy j2
   exact k j x y _ _ e1 e2 r1 r2
  have e:((List.range (min its.toArray.size its'.toArray.size)).all (fun _=>true) && its.toArray.size == its'.toArray.size)=true:=by
   simp;lia
  rw [e] at key
  exact key
 ·obtain ⟨its,vx,ht,_⟩:=I.list (SqL.of ha)
  obtain ⟨its',vy,ht',_⟩:=I.list (SqL.of hb)
  have l1:=vx.length
  have l2:=vy.length
  have key:=SeqAt.RcAt.lists (A:=A) (e:=fun _=>true) ht.isList ht'.isList (by simp;lia) hu fun j j1 j2=>by
   obtain ⟨x,e1,r1⟩:=ZcJ vx j1
   obtain ⟨y,e2,r2⟩:=ZcJ vy j2
   exact k j x y _ _ e1 e2 r1 r2
  have e:(List.range its.toArray.size).all (fun _=>true)=true:=by simp
  rw [e] at key
  exact key
theorem Zgb (I : Inv X pins σ H s) : ∀ (n : Nat) {x y : V} {u v : Value} {A : Around}, Alike H n x y -> RelV x u -> RelV y v -> A.units + n < cLine -> SeqAt.EqAt A s u v true := by
  have flat : ∀ {x : V} {u v : Value} {A : Around}, simV x -> RelV x u -> RelV x v -> SeqAt.EqAt A s u v true := by
    intro x u v A f ru rv
    cases x with
    | non => cases ru; cases rv; exact SeqAt.EqAt.same _
    | bl b => cases ru; cases rv; exact SeqAt.EqAt.same _
    | int i =>
      obtain ⟨t, rfl⟩ := ru; obtain ⟨t', rfl⟩ := rv
      have := SeqAt.EqAt.int_int (A := A) (s := s) i t i t'
      simpa using this
    | str i =>
      obtain ⟨t, rfl⟩ := ru; obtain ⟨t', rfl⟩ := rv
      have := SeqAt.EqAt.str_str (A := A) (s := s) i t i t'
      simpa using this
    | ref a => cases ru; cases rv; exact SeqAt.EqAt.same _
    | _ => cases f
  intro n
  induction n with
  | zero =>
    rintro x y u v A ⟨rfl, f⟩ ru rv hu
    exact flat f ru rv
  | succ n ih =>
    rintro x y u v A h ru rv hu
    rcases h with ⟨rfl, f⟩ | ⟨xs, ys, ⟨a, b, rfl, rfl, h⟩, hl, k⟩
    · exact flat f ru rv
    · cases ru; cases rv
      by_cases hab : a = b
      · subst hab; exact SeqAt.EqAt.same _
      · exact SeqAt.EqAt.of_refs hab (Zg4 I h hl (by lia) fun j u v u' v' e1 e2 r1 r2 => ih (k j u v e1 e2) r1 r2 (by show A.units + 1 + n < cLine; lia))
noncomputable def rEqA:R2:=fun x y H Q=>∃ xs ys,Seqs H x y xs ys/\xs.length=ys.length/\(∀ (j:Nat) (u v:V),xs[j]?=some u->ys[j]?=some v->Alike H 40 u v)/\Q (.bl true) H
noncomputable def rNeA:R2:=fun x y H Q=>∃ xs ys,Seqs H x y xs ys/\xs.length=ys.length/\(∀ (j:Nat) (u v:V),xs[j]?=some u->ys[j]?=some v->Alike H 40 u v)/\Q (.bl false) H
theorem op_eqA (hu:X.A.units+64 < cLine):OpR X (compareOp .Eq) rEqA:=by
 rintro pins s σ H x y v u Q I rx ry ⟨xs,ys,⟨a,b,rfl,rfl,h⟩,hl,k,q⟩
 cases rx;cases ry
 have key:=Zg4 (A:=X.A) I h hl (by lia) fun j u v u' v' e1 e2 r1 r2=>Zgb I 40 (k j u v e1 e2) r1 r2 (by show X.A.units+1+40 < cLine;lia)
 exact key _ _ _ _ (ZaX I q rfl)
theorem op_neA (hu:X.A.units+64 < cLine):OpR X (compareOp .NotEq) rNeA:=by
 rintro pins s σ H x y v u Q I rx ry ⟨xs,ys,⟨a,b,rfl,rfl,h⟩,hl,k,q⟩
 cases rx;cases ry
 have kk:∀ (j:Nat) (u v:V) (u' v':Value),xs[j]?=some u->ys[j]?=some v->RelV u u'->RelV v v'->SeqAt.EqAt X.A.in1 s u' v' true:=fun j u v u' v' e1 e2 r1 r2=>Zgb I 40 (k j u v e1 e2) r1 r2 (by show X.A.units+1+40 < cLine;lia)
 rcases h with ⟨ha,hb⟩|⟨ha,hb⟩
 ·obtain ⟨its,vx,ht⟩:=I.isTup ha
  obtain ⟨its',vy,ht'⟩:=I.isTup hb
  have l1:=vx.length
  have l2:=vy.length
  refine SeqAt.RcNeAt.tuples (e:=fun _=>true) ht ht' (by lia) (fun j j1 j2=>?_) _ _ _ _ (ZaX I q ?_)
  ·obtain ⟨x,e1,r1⟩:=ZcJ vx j1
   obtain ⟨y,e2,r2⟩:=ZcJ vy j2
   exact kk j x y _ _ e1 e2 r1 r2
  ·simp;lia
 ·obtain ⟨its,vx,ht,_⟩:=I.list (SqL.of ha)
  obtain ⟨its',vy,ht',_⟩:=I.list (SqL.of hb)
  have l1:=vx.length
  have l2:=vy.length
  refine SeqAt.RcNeAt.lists (e:=fun _=>true) ht.isList ht'.isList (by simp;lia) (by lia) (fun j j1 j2=>?_) _ _ _ _ (ZaX I q ?_)
  ·obtain ⟨x,e1,r1⟩:=ZcJ vx j1
   obtain ⟨y,e2,r2⟩:=ZcJ vy j2
   exact kk j x y _ _ e1 e2 r1 r2
  ·simp
end
section
variable {H:Hp}
noncomputable def ZmY (H:Hp) (n:Nat) (x y:V):Prop:=∃ xs ys,Seqs H x y xs ys/\xs.length=ys.length/\∀ (j:Nat) (u v:V),xs[j]?=some u->ys[j]?=some v->Alike H n u v
theorem Zk8 {n:Nat} {a b:Addr} {xs ys:List V} (ha:H a=some (.lst xs)) (hb:H b=some (.lst ys)) (hl:xs.length=ys.length) (k:∀ (j:Nat) (u v:V),xs[j]?=some u->ys[j]?=some v->Alike H n u v):ZmY H n (.ref a) (.ref b):=⟨xs,ys,⟨a,b,rfl,rfl,.inr ⟨ha,hb⟩⟩,hl,k⟩
theorem al_nil {n:Nat}:∀ (j:Nat) (u v:V),([]:List V)[j]?=some u->([]:List V)[j]?=some v->Alike H n u v:=fun j u v e _=>by simp at e
theorem Zh6 {n:Nat} {x y:V} {xs ys:List V} (h:Alike H n x y) (t:∀ (j:Nat) (u v:V),xs[j]?=some u->ys[j]?=some v->Alike H n u v):∀ (j:Nat) (u v:V),(x::xs)[j]?=some u->(y::ys)[j]?=some v->Alike H n u v
 | 0,u,v,e1,e2=>by simp at e1 e2;subst e1;subst e2;exact h
 | j+1,u,v,e1,e2=>t j u v (by simpa using e1) (by simpa using e2)
theorem rd_neA {x y:V} {Q:VK} (h:ZmY H 40 x y) (q:Q (.bl false) H):rNeA x y H Q:=by
 obtain ⟨xs,ys,s,l,k⟩:=h
 exact ⟨xs,ys,s,l,k,q⟩
end
end L2
end
section
namespace L2
open PySem
section
variable {ow:List Addr} {H0 H H':Hp} {L L' l1 l2:List (Addr×HO)} {R R':List (List D×List V)} {Q:VK} {a q:Addr} {o:HO} {xs ys vs:List V} {ds:List D} {d:D} {v:V}
end
section
variable {b l:Addr} {H0 H H':Hp} {L L' l1 l2:List (Addr×HO)} {R R':List (List D×List V)} {Q:VK} {E:XK} {a q:Addr} {o:HO} {xs ys vs:List V} {ds:List D} {d:D} {v:V}
end
theorem Zij {K:PySem.W.Frag} {H:Hp} {p:Addr} {ys:List V} {Q:VK} (h:SqT K H p ys) (q:Q (.int ys.length) H):rLen K [.ref p] H Q:=⟨_,_,rfl,.inr ⟨ys,h,rfl⟩,q⟩
section
variable {ow:List Addr} {b l:Addr} {K:PySem.W.Frag} {H0 H H':Hp} {L L' l1 l2:List (Addr×HO)} {R R':List (List D×List V)} {Q:VK} {E:XK} {a q p:Addr} {o:HO} {xs ys zs vs:List V} {ds:List D} {d:D} {v:V}
end
end L2
end
section
namespace HT
open PySem PySem.Spec PyProof.Rows L2
section
variable {prog:Program} {w:World} {A:Around} {E:Value->Shared->Prop} {s:Shared}
theorem cat_tup0 {t b:Addr} {vs ws:List Value} {Q:Value->Shared->Prop} (ht:IsTup s.heap t vs.toArray) (hb:IsTup s.heap b ws.toArray) (hv:vs=[]) (h1:Q (.ref b) s):wpAny (model prog w) A (binaryOp .Add (.ref t) (.ref b)) Q E s:=by
 obtain ⟨⟨cls,dd,data,sl⟩,ho,hc,n,hd⟩:=id ht
 obtain ⟨⟨cls2,dd2,data2,sl2⟩,ho2,hc2,n2,hd2⟩:=id hb
 simp only at hc hd hc2 hd2
 subst hc hd hc2 hd2
 exact concat_meets ⟨_,ho,rfl⟩ ⟨_,ho2,rfl⟩ noFill_tuple_add seq_tuple_add PySem.F.slot_tuple_add PySem.F.entry_tuple_add (PySem.F.args_tuple_add_2 _ _) (tuple_addW0 t b vs.toArray ws.toArray n n2 dd dd2 sl sl2 (by simp [hv])) ⟨ho,ho2,h1⟩
end
end HT
namespace L2
open PySem PySem.Spec PyProof.Rows
section
variable {X:Cx} {K:PySem.W.Frag}
noncomputable def ZnE (K:PySem.W.Frag):R2:=fun x y H Q=>∃ a b xs ys,x=.ref a/\y=.ref b/\SqT K H a xs/\SqT K H b ys/\xs.length+ys.length<=sizeLine /\
 (xs=[]->Q (.ref b) H)/\(ys=[]->Q (.ref a) H)/\∀ p,H p=none->Q (.ref p) (upd H p (.tup (xs++ys)))
theorem ZnU:OpR X (binaryOp .Add) (ZnE X.K):=by
 intro pins s σ H x y v u Q I rx ry h
 obtain ⟨a,b,xs,ys,rfl,rfl,ha,hb,hz,q0,q1,q2⟩:=h
 by_cases hx:xs=[]
 ·cases rx
  cases ry
  obtain ⟨its,r1,p1,_⟩:=I.tuple ha
  obtain ⟨its2,r2,p2,_⟩:=I.tuple hb
  exact HT.cat_tup0 p1 p2 (r1.nil_iff.mpr hx) ⟨.ref b,H,I,rfl,q0 hx⟩
 ·exact ZnV pins s σ H _ _ v u Q I rx ry ⟨a,b,xs,ys,rfl,rfl,ha,hb,hx,hz,q1,fun _=>q2⟩
theorem Zhb (h:X.K=K):OpR X (binaryOp .Add) (ZnE K):=h▸ZnU
end
theorem Zfn {K:PySem.W.Frag} {H:Hp} {a b:Addr} {xs ys:List V} {Q:VK} (h1:H a=some (.tup xs)) (h2:H b=some (.tup ys)) (hz:xs.length+ys.length<=1000000) (q:∀ p H',H' p=some (.tup (xs++ys))->Same H H'->Q (.ref p) H'):ZnE K (.ref a) (.ref b) H Q :=
 ⟨a,b,xs,ys,rfl,rfl,SqT.of h1,SqT.of h2,Zjt hz,fun e=>q b H (by rw [e];exact h2) (Same.refl _),fun e=>q a H (by rw [e,append_nil];exact h1) (Same.refl _),fun p hp=>q p _ Zad (Same.new hp)⟩
end L2
end
section
namespace L2
open PySem PySem.Spec PyProof.Rows PySem.Builtin PySem.Builtin.Str
section
variable {X:Cx}
theorem Zic:∀ (l:List (Str×Tok)),Vals ((l.map (·.1)).map V.str) (strValues l)
 | []=>.nil
 | (z,t)::l=>.cons ⟨t,rfl⟩ (Zic l)
theorem Zfg (x y:Str):(Txt.split x y).length<=x.length+2:=by
 unfold Txt.split
 split
 ·show 1<=_;lia
 ·split
  ·show 1<=_;lia
  ·rw [length_partsBetween]
   have:=StrLaws.occ_length_le x y 0 x.length (x.length+1)
   lia
noncomputable def ZjU:V->List V->Hp->VK->Prop:=fun x vs H Q=>∃ z y,x=.str z/\vs=[.str y]/\(y.length == 0)=false/\z.length+2<=sizeLine/\∀ p,H p=none->Q (.ref p) (upd H p (.lst ((Txt.split z y).map V.str)))
theorem Zb1:MtR X "str.split" ZjU:=by
 intro pins s σ H x vs v us Q I rx rv h
 obtain ⟨z,y,rfl,rfl,hy,hl,q⟩:=h
 obtain ⟨t,rfl⟩:=rx
 obtain ⟨u,rfl,ru⟩:=rv.one
 obtain ⟨t',rfl⟩:=ru
 have hn:=Zfg z y
 have fin:∀ (l:List (Str×Tok)) (k:Nat),l.map (·.1)=Txt.split z y->EP X pins σ Q (.ref s.heap.objs.size) { s with toks:=k,heap:=s.heap.push { cls:=.type "list",data:=.seq (strValues l).toArray } }:=by
  intro l k e
  refine ⟨.ref s.heap.objs.size,_,I.laid (t':=k) (fun b u e=>Heap.get?_push_of_some _ e) (Nat.le_refl _) ?_,rfl,q _ I.fresh⟩
  refine ⟨by rw [length_map];lia,strValues l,0,by rw [<-e];exact Zic l,Heap.get?_push_size _ rfl⟩
 have hx:z.length<=sizeLine:=by lia
 have hp:(partsBetween z (occurrences z y 0 z.length (z.length+1)) y.length).length<=sizeLine:=by
  rw [length_partsBetween]
  have:=StrLaws.occ_length_le z y 0 z.length (z.length+1)
  lia
 cases h1:(decide (z.length < y.length) || decide (strKind z < strKind y))
 ·cases hf:(occurrences z y 0 z.length (z.length+1)).isEmpty
  ·refine call_meets F.slot_str_split (typeIs_str _ _ _) F.entry_str_split (F.args_str_split_2 _ _) (meets_str_split_sep z y t t' h1 hy hf hx hp) ?_
   show wants _ _ _ { s with toks:=_,heap:=s.heap.push { cls:=.type "list",data:=.seq (strsFrom s.toks (partsBetween z (occurrences z y 0 z.length (z.length+1)) y.length)).toArray } }
   rw [strsFrom_eq]
   exact fin (numbered s.toks _) _ ((numbered_texts _ _).trans ((if_neg (ne_true_of_eq_false h1)).trans (if_neg (ne_true_of_eq_false hf))).symm)
  ·exact call_meets F.slot_str_split (typeIs_str _ _ _) F.entry_str_split (F.args_str_split_2 _ _) (meets_str_split_not_found z y t t' h1 hy hf) (fin [(z,t)] _ ((if_neg (ne_true_of_eq_false h1)).trans (if_pos hf)).symm)
 ·exact call_meets F.slot_str_split (typeIs_str _ _ _) F.entry_str_split (F.args_str_split_2 _ _) (meets_str_split_cannot_occur z y t t' h1) (fin [(z,t)] _ (if_pos h1).symm)
theorem ZdR {z y:Str} {H:Hp} {Q:VK} (hy:(y.length == 0)=false) (hl:z.length+2<=sizeLine) (q:∀ p,H p=none->Q (.ref p) (upd H p (.lst ((Txt.split z y).map V.str)))):ZjU (.str z) [.str y] H Q:=⟨z,y,rfl,rfl,hy,hl,q⟩
noncomputable def ZjT:V->List V->Hp->VK->Prop:=fun x vs H Q=>∃ z y,x=.str z/\vs=[.str y]/\Q (.bl (Txt.startswith z y)) H
theorem Zkg:MtR X "str.startswith" ZjT:=by
 intro pins s σ H x vs v us Q I rx rv h
 obtain ⟨z,y,rfl,rfl,q⟩:=h
 obtain ⟨t,rfl⟩:=rx
 obtain ⟨u,rfl,ru⟩:=rv.one
 obtain ⟨t',rfl⟩:=ru
 exact call_meets F.slot_str_startswith (typeIs_str _ _ _) F.entry_str_startswith (F.args_str_startswith_2 _ _) (gives_str_startswith z y t t').meets ⟨.bl _,H,I,rfl,q⟩
theorem ZjE {z y:Str} {H:Hp} {Q:VK} (q:Q (.bl (Txt.startswith z y)) H):ZjT (.str z) [.str y] H Q:=⟨z,y,rfl,rfl,q⟩
noncomputable def rIntT:List V->Hp->VK->Prop:=fun xs H Q=>∃ z n,xs=[.str z]/\PySem.intText? z=some n/\z.length<=640/\Q (.int n) H
theorem ZdN:Zc9 X (.type "int") rIntT:=by
 intro pins s σ H xs us Q I r h
 obtain ⟨z,n,rfl,hn,hl,q⟩:=h
 obtain ⟨u,rfl,ru⟩:=ZgV r
 obtain ⟨t,rfl⟩:=ru
 exact PySem.W.KIN.call_text hn hl ⟨.int n,H,I.tok _,⟨_,rfl⟩,q⟩
theorem Zd1 {z:Str} {n:Int} {H:Hp} {Q:VK} (h:PySem.intText? z=some n) (hl:z.length<=640) (q:Q (.int n) H):rIntT [.str z] H Q:=⟨z,n,rfl,h,hl,q⟩
noncomputable def rStrI:List V->Hp->VK->Prop:=fun xs H Q=>∃ i,xs=[.int i]/\i.natAbs.log2 < 1920/\Q (.str (toString i)) H
theorem ZbM:Zc9 X (.type "str") rStrI:=Zhm
theorem ZcW {i:Int} {H:Hp} {Q:VK} (h:i.natAbs.log2 < 1920) (q:Q (.str (toString i)) H):rStrI [.int i] H Q:=⟨i,rfl,h,q⟩
noncomputable def rAddS:R2:=fun x y H Q=>∃ i j,x=.str i/\y=.str j/\i.length+j.length<=sizeLine/\Q (.str (i++j)) H
theorem ZaR:OpR X (binaryOp .Add) rAddS:=ZiT
theorem ZaQ {i j:Str} {H:Hp} {Q:VK} (h:i.length+j.length<=sizeLine) (q:Q (.str (i++j)) H):rAddS (.str i) (.str j) H Q:=⟨i,j,rfl,rfl,h,q⟩
noncomputable def rInS:R2:=fun x y H Q=>∃ i j,x=.str i/\y=.str j/\Q (.bl (!(Builtin.Str.occurrences j i 0 j.length 1).isEmpty)) H
theorem op_inS:OpR X (compareOp .In) rInS:=Zkb
theorem Znt {c:Nat} {z:Str} {H:Hp} {Q:VK} (q:Q (.bl (decide (c∈z.cps.toList))) H):rInS (.str ⟨#[c]⟩) (.str z) H Q:=⟨_,_,rfl,rfl,by rw [StrLaws.found_one];exact q⟩
theorem ZeU {K:PySem.W.Frag} (h:X.K=K):MtR X "str.join" (ZlF K):=h▸ZnX
theorem ZeD {K:PySem.W.Frag} {z:Str} {a:Addr} {zs:List Str} {H:Hp} {Q:VK} (ha:SqL K H a (zs.map V.str)) (hl:z.length<=16) (hw:(zs.map (·.length)).sum+zs.length<=1048576) (q:Q (.str (Str.join z zs)) H):ZlF K (.str z) [.ref a] H Q :=
 ⟨z,a,zs,rfl,rfl,ha,hl,hw,by rw [show Txt.join z zs=Str.join z zs from StrLaws.glued_eq_join z zs];exact q⟩
theorem ZnM {x z:Str} {pos:Pos} (hg:Gl X x) (h:∃ t,X.mg x=some (.str z t)) (hd:(x == ("__debug__":Str))=false:=by decide):PE X (.Name x pos) (tC (.str z)):=by
 obtain ⟨t,ht⟩:=h
 intro pins s σ H Q I q
 exact ZdI I hg ht ⟨.str z,H,I,⟨t,rfl⟩,q⟩ hd
end
end L2
end
section
namespace L2
open PySem PySem.Spec PyProof.Rows PySem.Builtin PySem.Builtin.Str PySem.NumText
noncomputable abbrev cs (z:Str):List Nat:=z.cps.toList
theorem Zet {x y:Str} (h:cs x=cs y):x=y:=by
 obtain ⟨a⟩:=x
 obtain ⟨b⟩:=y
 have:a=b:=Array.toList_inj.mp h
 rw [this]
theorem Za8 (x y:Str):cs (x++y)=cs x++cs y:=cps_toList_append x y
theorem Za0 (x:Str):(cs x).length=x.length:=Array.length_toList
theorem ZaC (x y:Str):(x++y).length=x.length+y.length:=by
 rw [<-Za0,<- Za0,<- Za0,Za8,length_append]
noncomputable def jn (c:Nat):List (List Nat)->List Nat
 | []=>[]
 | [x]=>x
 | x::y::r=>x++c::jn c (y::r)
theorem Zbg (c : Nat) : ∀ (ps : List Str), cs (Str.join ⟨#[c]⟩ ps) = jn c (ps.map cs)
  | [] => rfl
  | [x] => rfl
  | x :: y :: r => by
    show cs (x ++ ⟨#[c]⟩ ++ Str.join ⟨#[c]⟩ (y :: r)) = _
    rw [Za8, Za8, Zbg c (y :: r)]
    show (cs x ++ [c]) ++ _ = cs x ++ c :: _
    rw [append_assoc]
    rfl
theorem ZbV (x y:Str):Txt.split x y≠[]:=by
 unfold Txt.split
 split
 ·exact cons_ne_nil _ _
 ·split
  ·exact cons_ne_nil _ _
  ·intro h
   have:=congrArg List.length h
   rw [length_partsBetween] at this
   exact absurd this (Nat.succ_ne_zero _)
theorem Zep (s : Str) : ∀ {a b : List Str}, a ≠ [] -> b ≠ [] -> Str.join s (a ++ b) = Str.join s a ++ s ++ Str.join s b
  | [], _, h, _ => absurd rfl h
  | [x], [], _, h => absurd rfl h
  | [x], y :: b, _, _ => rfl
  | x :: y :: a, b, _, hb => by
    show x ++ s ++ Str.join s (y :: a ++ b) = x ++ s ++ Str.join s (y :: a) ++ s ++ Str.join s b
    rw [Zep s (cons_ne_nil y a) hb]
    apply Zet
    simp only [Za8, append_assoc]
theorem Zhc (s : Str) : ∀ {ls : List (List Str)}, (∀ l ∈ ls, l ≠ []) -> Str.join s (ls.map (Str.join s)) = Str.join s ls.flatten
  | [], _ => rfl
  | [l], _ => by
    show Str.join s l = Str.join s (l ++ [])
    rw [append_nil]
  | l :: m :: ls, h => by
    show Str.join s l ++ s ++ Str.join s ((m :: ls).map (Str.join s)) = Str.join s (l ++ (m :: ls).flatten)
    have hn : (m :: ls).flatten ≠ [] := by
      intro z
      have := append_eq_nil_iff.mp (show m ++ ls.flatten = [] from z)
      exact h m (mem_cons_of_mem _ mem_cons_self) this.1
    rw [Zhc s (fun x hx => h x (mem_cons_of_mem _ hx)), Zep s (h l mem_cons_self) hn]
theorem Zkv (s:Str) {a:List Str} {x:Str} (h:a≠[]):Str.join s (a++[x])=Str.join s a++s++x:=Zep s h (cons_ne_nil _ _)
noncomputable def numS (n:Int):Str:=toString n
noncomputable def figs (m:Nat):List Nat:=(Nat.toDigits 10 m).map Char.toNat
theorem cs_num (m:Nat):cs (numS (m:Int))=figs m:=PySem.W.KIN.signs_num m
theorem cs_neg (m:Nat):cs (numS (-((m+1:Nat):Int)))=45::figs (m+1):=by
 show (Str.ofString (toString (Int.negSucc m))).cps.toList=_
 rw [signs_ofString]
 show (("-"++Nat.repr (m+1):String)).toList.map Char.toNat=_
 rw [String.toList_append,map_append,Nat.toList_repr]
 rfl
theorem ZfG (m:Nat):AllDigits (figs m):=by
 intro c hc
 obtain ⟨ch,hch,e⟩:=mem_map.mp hc
 rw [<-e]
 exact digit_range (Nat.isDigit_of_mem_toDigits (by decide) (by decide) hch)
theorem ZiF {m:Nat} (h:10<=m):figs m=figs (m / 10)++figs (m % 10):=by
 have t:Nat.toDigits 10 (m / 10)++Nat.toDigits 10 (m % 10)=Nat.toDigits 10 (10 * (m / 10)+m % 10):=Nat.toDigits_append_toDigits (by decide) (by lia) (Nat.mod_lt m (by decide))
 rw [Nat.div_add_mod] at t
 unfold figs
 rw [<-t,map_append]
theorem Zfa:∀ m:Nat,m < 10->figs m=[48+m]:=by decide
theorem ZiE : ∀ (k m : Nat), 0 < k -> m < 10 ^ k -> (figs m).length <= k := by
  intro k
  induction k with
  | zero => intro m h; exact absurd h (Nat.lt_irrefl _)
  | succ k ih =>
    intro m _ hm
    by_cases h : m < 10
    · rw [Zfa m h]
      exact Nat.le_add_left _ _
    · rw [ZiF (by lia), length_append, Zfa _ (Nat.mod_lt m (by decide))]
      cases k with
      | zero => lia
      | succ k =>
        have := ih (m / 10) (Nat.succ_pos _) (by rw [Nat.div_lt_iff_lt_mul (by decide)]; rw [Nat.pow_succ] at hm; exact hm)
        show _ + 1 <= _
        lia
theorem Zek (n:Int):(∃ m:Nat,n=m/\cs (numS n)=figs m)\/∃ m:Nat,0 < m/\n=-(m:Int)/\cs (numS n)=45::figs m:=by
 rcases Int.lt_or_le n 0 with h|h
 ·right
  refine ⟨n.natAbs,by lia,by lia,?_⟩
  have e:n=-(((n.natAbs - 1)+1:Nat):Int):=by lia
  have e2:n.natAbs=n.natAbs - 1+1:=by lia
  rw [show cs (numS n)=cs (numS (-(((n.natAbs - 1)+1:Nat):Int))) by rw [<-e],cs_neg,<- e2]
 ·left
  obtain ⟨m,rfl⟩:=Int.eq_ofNat_of_zero_le h
  exact ⟨m,rfl,cs_num m⟩
theorem Zej (n:Int):∀ c∈cs (numS n),c=45\/(48<=c/\c<=57):=by
 intro c hc
 rcases Zek n with ⟨m,_,e⟩|⟨m,_,_,e⟩
 ·rw [e] at hc
  exact .inr (ZfG m c hc)
 ·rw [e] at hc
  rcases mem_cons.mp hc with z|z
  ·exact .inl z
  ·exact .inr (ZfG m c z)
end L2
end
section
namespace L2
open PySem PySem.Spec PyProof.Rows PySem.Builtin PySem.Builtin.Str PySem.NumText
noncomputable def minus:Str:="-"
noncomputable def Zbw:Str:=" "
noncomputable def feed:Str:="\n"
theorem ZlY:minus=⟨#[45]⟩:=by decide
theorem Zcd:Zbw=⟨#[32]⟩:=by decide
theorem ZeH:feed=⟨#[10]⟩:=by decide
noncomputable def Zb5 (c:Nat):Bool:=decide (48<=c) && decide (c<=57)
noncomputable def figT (z:Str):List Nat:=if (cs z).head?=some 45 then (cs z).drop 1 else cs z
noncomputable def ZaF (most:Nat) (z:Str):Option Int :=
 if (1<=(figT z).length/\(figT z).length<=most)/\(figT z).all Zb5=true then (if (figT z).head?=some 48/\cs z≠[48] then none else intText? z) else none
theorem Zg0 (z:Str):Txt.startswith z minus=decide ((cs z).head?=some 45):=by
 rw [Bool.eq_iff_iff,ZlY]
 unfold Txt.startswith
 rw [Bool.and_eq_true,decide_eq_true_eq,decide_eq_true_eq]
 have:=StrLaws.subAt_one z 45 0
 rw [head?_eq_getElem?]
 exact this
theorem Zjv (z:Str) (h:1<=z.length):cs (Txt.slice z (some 1) none)=(cs z).drop 1:=by
 rw [slice_from_eq (b:=z.length) (by decide) (by lia) rfl]
 show ((z.cps.toList.drop 1).take ((z.length:Int) - 1).toNat)=_
 rw [take_of_length_le]
 rw [length_drop]
 have:z.cps.toList.length=z.length:=Za0 z
 lia
theorem isFig_of {c:Nat}:Zb5 c=true↔48<=c/\c<=57:=by simp [Zb5]
theorem allFig {l:List Nat}:l.all Zb5=true↔AllDigits l:=by
 rw [all_eq_true]
 exact ⟨fun h c hc=>isFig_of.mp (h c hc),fun h c hc=>isFig_of.mpr (h c hc)⟩
theorem Zey {most : Nat} {z : Str} (hm : most <= 600) (h1 : 1 <= (figT z).length /\ (figT z).length <= most) (h2 : (figT z).all Zb5 = true) : z.length <= 601 /\ ∃ n, intText? z = some n := by
  have hl := Za0 z
  have hd := allFig.mp h2
  unfold figT at h1 hd
  split at h1
  · next e =>
    rw [if_pos e] at hd
    cases ez : cs z with
    | nil => rw [ez] at e; cases e
    | cons c r =>
      rw [ez] at e h1 hd hl
      cases e
      have hr : (List.drop 1 (45 :: r)) = r := rfl
      rw [hr] at h1 hd
      simp only [length_cons] at hl
      exact ⟨by lia, _, intText_neg ez hd (fun z => by rw [z] at h1; exact absurd h1.1 (by decide)) (by lia)⟩
  · next e =>
    rw [if_neg e] at hd
    exact ⟨by lia, _, intText_digits hd (fun z => by rw [show cs _ = [] from z] at h1; exact absurd h1.1 (by decide)) (by lia)⟩
theorem Zck {α β : Type} {f : α -> Option β} : ∀ {l : List α} {r : List β}, l.mapM f = some r -> l.length = r.length /\ ∀ (i : Nat) a, l[i]? = some a -> ∃ b, r[i]? = some b /\ f a = some b := by
  intro l
  induction l with
  | nil =>
    intro r h
    cases h
    exact ⟨rfl, fun i a e => by cases e⟩
  | cons x l ih =>
    intro r h
    rw [mapM_cons] at h
    cases ex : f x with
    | none => rw [ex] at h; cases h
    | some y =>
      rw [ex] at h
      cases el : l.mapM f with
      | none => rw [el] at h; cases h
      | some ys =>
        rw [el] at h
        cases h
        obtain ⟨h1, h2⟩ := ih el
        refine ⟨by simp [h1], fun i a e => ?_⟩
        cases i with
        | zero => cases e; exact ⟨y, rfl, ex⟩
        | succ i => exact h2 i a e
noncomputable def rowT (w:Str) (ns:List Int):Str:=Str.join Zbw (w::ns.map numS)
theorem ZlV (n:Int):32∉cs (numS n)/\10∉cs (numS n):=⟨fun h=>by have:=Zej n _ h;lia,fun h=>by have:=Zej n _ h;lia⟩
theorem ZhR {c d : Nat} (hcd : c ≠ d) : ∀ {ps : List (List Nat)}, (∀ p ∈ ps, c ∉ p) -> c ∉ jn d ps
  | [], _ => not_mem_nil
  | [x], h => h x mem_cons_self
  | x :: y :: r, h => by
    show c ∉ x ++ d :: jn d (y :: r)
    intro z
    rcases mem_append.mp z with z | z
    · exact h x mem_cons_self z
    · rcases mem_cons.mp z with z | z
      · exact hcd z
      · exact ZhR hcd (fun p hp => h p (mem_cons_of_mem _ hp)) z
end L2
end
section
namespace L2
open PySem PySem.Spec PyProof.Rows
inductive FlyO (P:Program) (w:World) (C:Addr) (outer:List Env) (H:Hp) (s:Shared) (E:XK) (e:Value) (s':Shared):Prop
 | mk (a H' B t) (_:e=.ref a) (_:s'.os=s.os) (_:AllBare s'.gens) (_:Un (frs outer) [] H H' s.heap s'.heap) (_:HOk P w H' s'.heap) (_:Heap.FlyingW B outer a (.ref C) (.ref t) s'.heap) (_:∀ b o,(H' b≠none\/(s.heap.get? b≠none/\b∉frs outer))->s'.heap.get? b=some o->B.get? b=some o) (_:E (.ref C) none H'):FlyO P w C outer H s E e s'
noncomputable def Fly (P:Program) (w:World) (C:Addr):CXT:=FlyO P w C
section
variable {P:Program} {w:World} {K:PySem.W.Frag} {mg:Str->Option Value} {base:Heap} {C:Addr}
theorem _root_.L2.HOk.over {H : Hp} {h h' B : Heap} (ok : HOk P w H h) (kB : ∀ b o, H b ≠ none -> h.get? b = some o -> B.get? b = some o) (st : B.StaysIn h') : HOk P w H h' := fun b u e =>
  (ok b u e).stay (fun c v hc q => st _ _ (kB c v (by rcases hc with rfl | hc
                                                      · rw [e]; exact fun z => by cases z
                                                      · rw [hc]; exact fun z => by cases z) q)) (fun _ q => q) (fun _ _ q => q)
theorem ObjOk.has {H:Hp} {h:Heap} {a:Addr} {o:HO} (x:ObjOk P w H h a o):∃ u,h.get? a=some u:=by
 cases o with
 | lst xs=>obtain ⟨_,_,_,_,e⟩:=x;exact ⟨_,e⟩
 | tup xs=>obtain ⟨_,_,_,ob,e,_⟩:=x;exact ⟨_,e⟩
 | dK kvs=>obtain ⟨_,_,_,_,ob,_,_,e,_⟩:=x;exact ⟨_,e⟩
 | dT kvs=>obtain ⟨_,_,_,_,ob,_,_,e,_⟩:=x;exact ⟨_,e⟩
 | set S n=>obtain ⟨ob,_,_,_,e,_⟩:=x;exact ⟨_,e⟩
 | ins C dx fs=>obtain ⟨_,_,_,e,_⟩:=x;exact ⟨_,e⟩
 | own x'=>exact x
 | xd fs=>obtain ⟨_,⟨_,_,_,e,_⟩,_⟩:=x;exact ⟨_,e⟩
 | rng lo hi=>obtain ⟨_,_,_,e⟩:=x;exact ⟨_,e⟩
 | frz o u=>exact ⟨_,x.1⟩
 | tbl ps=>exact ⟨_,x⟩
 | met f x'=>exact ⟨_,x⟩
 | ext φ=>exact x.2.1
section
variable {N:List Str} {qual:Str} {scope:Scope} {f:Addr} {cd:Value} {A:Around} {outer:List Env} {s:Shared} {H:Hp} {E:XK} {pins:List (Addr×Obj)} {σ:St} {H1:Hp} {s1:Shared}
theorem Zj6 {h' B:Heap} {a t:Addr} (I:Inv (cxOf (Fly P w C) P w K mg base N qual scope f cd A outer s H E) pins σ H1 s1) (kB:∀ b o,(H1 b≠none\/(s.heap.get? b≠none/\b∉frs outer))->s1.heap.get? b=some o->B.get? b=some o)
  (fl:Heap.FlyingW B outer a (.ref C) (.ref t) h') (up:s1.heap.UpToSlots h') (e:E (.ref C) none H1):Fly P w C outer H s E (.ref a) { s1 with heap:=h' }:=by
 have hu:Un (frs outer) [] H H1 s.heap s1.heap:=I.base
 have hfr:∀ b∈frs outer,∃ o,s1.heap.get? b=some o/\∀ vs,o.data≠.fields vs:=fun b hb=>(I.stack.mem (show b∈(envOfC qual scope s.heap.objs.size f cd::outer).filterMap (·.frame) from mem_cons_of_mem _ hb)).2
 have old:∀ b o,s.heap.get? b=some o->∃ o',s1.heap.get? b=some o':=fun b o hb=>hu.there b o hb (by simp)
 refine ⟨a,H1,B,t,rfl,I.os,I.bare,⟨fun b o hb hn hf hx=>?_,fun b o hb hn hf hx=>?_,hu.free,fun b o hb hx=>?_,hu.tups,hu.frzs,hu.tbls⟩,I.hok.over (fun b o hb=>kB b o (.inl hb)) fl.1,fl,fun b o hb e'=>?_,e⟩
 ·exact fl.1 b o (kB b o (.inr ⟨(by rw [hb];exact fun z=>(by cases z)),hf⟩) (hu.keep b o hb hn hf hx))
 ·obtain ⟨sl,q⟩:=hu.slot b o hb hn hf hx
  obtain ⟨o',q',nf⟩:=hfr b hf
  rw [q] at q'
  cases q'
  obtain ⟨sl2,q2⟩:=up b _ q nf
  exact ⟨sl2,q2⟩
 ·obtain ⟨o',q⟩:=old b o hb
  by_cases hf:b∈frs outer
  ·obtain ⟨o2,q2,nf⟩:=hfr b hf
   obtain ⟨sl,q3⟩:=up b o2 q2 nf
   exact ⟨_,q3⟩
  ·exact ⟨o',fl.1 b o' (kB b o' (.inr ⟨(by rw [hb];exact fun z=>(by cases z)),hf⟩) q)⟩
 ·have:∃ o1,s1.heap.get? b=some o1:=by
   rcases hb with hb|⟨hb,_⟩
   ·cases q:H1 b with
    | none=>exact absurd q hb
    | some u=>exact ObjOk.has (I.hok b u q)
   ·cases q:s.heap.get? b with
    | none=>exact absurd q hb
    | some u=>exact old b u q
  obtain ⟨o1,q1⟩:=this
  have h1:=kB b o1 hb q1
  have h2:=fl.1 b o1 h1
  rw [e'] at h2
  cases h2
  exact h1
theorem Zfu {b:Addr} (h:s.heap.get? b≠none) (n:b∉frs outer):b∉frs (envOfC qual scope s.heap.objs.size f cd::outer):=fun m=>by
 rcases mem_cons.mp (show b∈s.heap.objs.size::frs outer from m) with e|m
 ·cases q:s.heap.get? b with
  | none=>exact h q
  | some o=>exact absurd (Heap.lt_size q) (by rw [e];exact Nat.lt_irrefl _)
 ·exact n m
theorem ZjR {h1:Heap} {e:Addr} {vs:List Value} (I:Inv (cxOf (Fly P w C) P w K mg base N qual scope f cd A outer s H E) pins σ H1 s1) (hx:Heap.MadeExcOf s1.heap h1 e (.ref C) vs) (he:E (.ref C) none H1) :
  (cxOf (Fly P w C) P w K mg base N qual scope f cd A outer s H E).xe (.ref e) { s1 with heap:=h1 }:=by
 have I2:Inv (cxOf (Fly P w C) P w K mg base N qual scope f cd A outer s H E) pins σ H1 { s1 with heap:=h1 }:=I.kept (h':=h1) (t':=s1.toks) hx.keeps
 have hin:∀ env∈(envOfC qual scope s.heap.objs.size f cd::outer),∀ b,env.frame=some b->b∈frs (envOfC qual scope s.heap.objs.size f cd::outer):=fun env hm b hb=>mem_filterMap.mpr ⟨env,hm,hb⟩
 refine wpAny_leaves_madeW (base:=PySem.W.hideAll s1.heap (frs (envOfC qual scope s.heap.objs.size f cd::outer))) (h:=s1.heap) I.ok.frames rfl (fun b o q=>PySem.W.of_hideAll _ q) (PySem.W.funFrames_hide I.stack hin) hx fun h' t fl _ _ up=>?_
 refine Zj6 I2 (fun b o hb q=>?_) fl up he
 have q1:∃ o1,s1.heap.get? b=some o1:=by
  rcases hb with hb|⟨hb,_⟩
  ·cases z:H1 b with
   | none=>exact absurd z hb
   | some u=>exact ObjOk.has (I.hok b u z)
  ·cases z:s.heap.get? b with
   | none=>exact absurd z hb
   | some u=>exact I.base.there b u z (show b∉([]:List Addr) by simp)
 obtain ⟨o1,q1⟩:=q1
 have q2:=hx.keeps b o1 q1
 rw [show h1.get? b=some o from q] at q2
 cases q2
 refine PySem.W.hideAll_get _ q1 ?_
 rcases hb with hb|⟨hb,hn⟩
 ·exact fun m=>hb (I.stkFree b m)
 ·exact Zfu hb hn
theorem ZlN : Zge (Fly P w C) (cxOf (Fly P w C) P w K mg base N qual scope f cd A outer s H E) E := by
  intro pins σ H1 s1 e s2 I h
  obtain ⟨a, H2, B, t, rfl, os, bare, un, hok, fl, kB, he⟩ := h
  have I2 := I.call' (ch := []) os un hok bare (fun b z => absurd z (by simp))
  refine wpAny_leaves_onW I.ok.frames rfl fl fun h' fl' up => Zj6 I2 (fun b o hb q => kB b o ?_ q) fl' up he
  rcases hb with hb | ⟨hb, hn⟩
  · exact .inl hb
  · refine .inr ⟨?_, Zfu hb hn⟩
    cases z : s.heap.get? b with
    | none => exact absurd z hb
    | some u =>
      obtain ⟨o', q'⟩ := I.base.there b u z (show b ∉ ([] : List Addr) by simp)
      rw [q']
      exact fun z => by cases z
noncomputable def bmVE:List Value:=[.type "ValueError",.type "Exception",.type "BaseException",.type "object"]
noncomputable def ExcC (K:PySem.W.Frag) (C:Addr):Prop:=PySem.W.excIn K C bmVE "ValueError.__new__"=true
theorem exc_m1 {p : Prop} {ms : List Value} {ss : List (Option Value)} {f : Addr -> List Value -> Option Value -> Option Value -> Option Value -> Option Value -> String -> Option Value -> Bool}
    (k : ∀ C' bm s0 s1 s2 s3 n s5, ms = .ref C' :: bm -> ss = [s0, s1, s2, s3, some (.builtin n), s5] -> f C' bm s0 s1 s2 s3 n s5 = true -> p)
    (q : PySem.W.excIn.match_1 (fun _ _ => Bool) ms ss f (fun _ _ => false) = true) : p := by
  cases ms with
  | nil => exact absurd q Bool.false_ne_true
  | cons v bm =>
    cases v with
    | ref C' =>
      cases ss with
      | nil => exact absurd q Bool.false_ne_true
      | cons s0 ss =>
        cases ss with
        | nil => exact absurd q Bool.false_ne_true
        | cons s1 ss =>
          cases ss with
          | nil => exact absurd q Bool.false_ne_true
          | cons s2 ss =>
            cases ss with
            | nil => exact absurd q Bool.false_ne_true
            | cons s3 ss =>
              cases ss with
              | nil => exact absurd q Bool.false_ne_true
              | cons s4 ss =>
                cases s4 with
                | none => exact absurd q Bool.false_ne_true
                | some v =>
                  cases v with
                  | builtin n =>
                    cases ss with
                    | nil => exact absurd q Bool.false_ne_true
                    | cons s5 ss =>
                      cases ss with
                      | nil => exact k _ _ _ _ _ _ _ _ rfl rfl q
                      | cons _ _ => exact absurd q Bool.false_ne_true
                  | _ => exact absurd q Bool.false_ne_true
    | _ => exact absurd q Bool.false_ne_true
theorem exc_m6 {p : Prop} {o : Option Obj} {f : Option Addr -> ClassData -> Array (Option Value) -> Bool}
    (k : ∀ dd cd sl, o = some ⟨.type "type", dd, .cls cd, sl⟩ -> f dd cd sl = true -> p)
    (q : PySem.W.excIn.match_6 (fun _ => Bool) o f (fun _ => false) = true) : p := by
  cases o with
  | none => exact absurd q Bool.false_ne_true
  | some o =>
    obtain ⟨c, dd, d, sl⟩ := o
    cases c with
    | type t =>
      by_cases ht : t = "type"
      · subst ht
        cases d with
        | cls cd => exact k _ _ _ rfl q
        | _ => exact absurd q Bool.false_ne_true
      · unfold PySem.W.excIn.match_6 at q
        have q := (dif_neg ht).symm.trans q
        cases q
    | _ => exact absurd q Bool.false_ne_true
inductive ExcO (h:Heap) (C:Addr):Prop
 | mk (Nn nm qn bs bm hdct sn sub ab col dd k0 k1 k2 k3 k5) (_:h.get? C=some (excClassObj nm qn C Nn bs bm hdct sn sub ab col dd k0 k1 k2 k3 k5 "ValueError.__new__")) (_:h.Ns Nn (h.nsMap Nn)) (_:h.nsMap Nn "__init__"=none) (_:OwnTail h bmVE bm):ExcO h C
theorem Zoa {h:Heap} (X:K.In h) (q:ExcC K C):ExcO h C:=by
 unfold ExcC PySem.W.excIn at q
 refine exc_m6 (fun dd c9 slots look q=>?_) q
 refine exc_m1 (fun C' tl s0 s1 s2 s3 nid s5 em es q=>?_) q
 rw [Bool.and_eq_true,Bool.and_eq_true,Bool.and_eq_true,Bool.and_eq_true,Bool.and_eq_true] at q
 obtain ⟨⟨⟨⟨⟨q1,q2⟩,q3⟩,q4⟩,q5⟩,q6⟩:=q
 have q1:=beq_iff_eq.mp q1
 have q2:=beq_iff_eq.mp q2
 subst q1 q2
 cases c9
 dsimp only at em q3 q5 q6
 rw [Bool.not_eq_true'] at q3
 subst em q3
 have:slots=#[s0,s1,s2,s3,some (.builtin "ValueError.__new__"),s5]:=Array.toList_inj.mp es
 subst this
 exact ⟨_,_,_,_,tl,_,_,_,_,_,dd,s0,s1,s2,s3,s5,X _ _ look,.of_isNs (PySem.W.isNs_of_in X q5),PySem.W.nsMap_none_of_in X q5 (beq_iff_eq.mp q6),PySem.W.tail_of_in X q4⟩
noncomputable def Zmu (E:XK) (C:Addr) (t:TA):TS:=fun _ σ H=>t σ H fun vs H1=>vs.length<=1000/\E (.ref C) none H1
theorem Zct {x:Str} {np cpos pos:Pos} {e₀:Expr} {rest:List Expr} {t:TA} (hg:Gl (cxOf (Fly P w C) P w K mg base N qual scope f cd A outer s H E) x) (hm:mg x=some (.ref C)) (XC:ExcC K C) (ha:PA (cxOf (Fly P w C) P w K mg base N qual scope f cd A outer s H E) (e₀::rest) t)
  (hst:starEach (e₀::rest) (envOfC qual scope s.heap.objs.size f cd)=(false,eval e₀ (envOfC qual scope s.heap.objs.size f cd))::starEach rest (envOfC qual scope s.heap.objs.size f cd):=by rfl)
  (hpl:(backTo cpos (starEach rest (envOfC qual scope s.heap.objs.size f cd))).any (·.1)=false:=by rfl) (hd:(x == ("__debug__":Str))=false:=by decide) :
  PS (cxOf (Fly P w C) P w K mg base N qual scope f cd A outer s H E) (.Raise (some (.Call (.Name x np) (e₀::rest) [] cpos)) none pos) (Zmu E C t):=by
 intro pins s1 σ H1 D I h
 have kin:K.In base:=I.ok.mod.kin
 obtain ⟨Nn,nm,q,bs,bm,hdct,sn,sub,ab,col,dd,k0,k1,k2,k3,k5,hC,hns,hnone,tl⟩:=Zoa kin XC
 refine wpAny_Raise_call_subU (C:=C) (nm:=nm) (q:=q) (N:=Nn) (bs:=bs) (bm:=bm) (hdct:=hdct) (sn:=sn) (sub:=sub) (ab:=ab) (col:=col) (dd:=dd) (k0:=k0) (k1:=k1) (k2:=k2) (k3:=k3) (k5:=k5) (mN:=base.nsMap Nn)
  F.excBase_ValueError (bmB:=bmVE) (by decide) F.excBase_ValueError (tl.hasType (by decide)) (I.ok.hd rfl) ?_ hnone (ZdI I hg hm ⟨rfl,?_⟩ hd)
 ·show (backTo cpos (starEach (e₀::rest) (envOfC qual scope s.heap.objs.size f cd))).any (·.1)=false
  rw [hst]
  show (false || (backTo cpos (starEach rest (envOfC qual scope s.heap.objs.size f cd))).any (·.1))=false
  rw [hpl]
  rfl
 ·show wpAny _ _ (evalArgs (.ref C) true (backTo cpos (starEach (e₀::rest) (envOfC qual scope s.heap.objs.size f cd))) []) _ _ _
  have h2:=ha cpos pins s1 σ H1 _ I h
  change wpAny _ _ (spliced (backTo cpos (starEach (e₀::rest) (envOfC qual scope s.heap.objs.size f cd)))) _ _ _ at h2
  rw [hst] at h2 ⊢
  refine Calls.evalArgs_plain (thn h2 fun us s2 h3=>?_)
  obtain ⟨vs,H2,I2,rv,hl,he⟩:=h3
  have kb:∀ b o,base.get? b=some o->s2.heap.get? b=some o:=I2.bk
  exact ⟨rfl,by rw [<-rv.length];exact Nat.le_trans hl (by decide),kb _ _ hC,hns.keeps kb,tl.keeps kb,fun h' e hx=>ZjR I2 hx he⟩
end
end
end L2
end
section
namespace L2
open PySem PySem.Spec PyProof.Rows
section
variable {X:Cx} {C:Addr} {pins:List (Addr×Obj)} {σ:St} {H H':Hp} {s s':Shared}
theorem Inv.land {B h2:Heap} (I:Inv X pins σ H s) (os:s'.os=s.os) (bare:AllBare s'.gens) (un:Un (frs X.stack) [] H H' s.heap s'.heap) (hok:HOk X.prog X.w H' s'.heap)
  (kB:∀ b o,(H' b≠none\/(s.heap.get? b≠none/\b∉frs X.stack))->s'.heap.get? b=some o->B.get? b=some o) (st:B.StaysIn h2) (up:s'.heap.UpToSlots h2):Inv X pins σ H' { s' with heap:=h2 }:=by
 have I2:=I.call' (ch:=[]) os un hok bare (fun b z=>absurd z (by simp))
 have hfr:∀ b∈frs X.stack,∃ o,s'.heap.get? b=some o/\∀ vs,o.data≠.fields vs:=fun b hb=>(I2.stack.mem hb).2
 refine I.call' (s':={ s' with heap:=h2 }) (ch:=[]) os ⟨fun b o hb hn hf hx=>?_,fun b o hb hn hf hx=>?_,un.free,fun b o hb hx=>?_,un.tups,un.frzs,un.tbls⟩ (hok.over (fun b o hb=>kB b o (.inl hb)) st) bare (fun b z=>absurd z (by simp))
 ·exact st b o (kB b o (.inr ⟨(by rw [hb];exact fun z=>(by cases z)),hf⟩) (un.keep b o hb hn hf hx))
 ·obtain ⟨sl,q⟩:=un.slot b o hb hn hf hx
  obtain ⟨o',q',nf⟩:=hfr b hf
  rw [q] at q'
  cases q'
  obtain ⟨sl2,q2⟩:=up b _ q nf
  exact ⟨sl2,q2⟩
 ·obtain ⟨o',q⟩:=un.there b o hb hx
  by_cases hf:b∈frs X.stack
  ·obtain ⟨o2,q2,nf⟩:=hfr b hf
   obtain ⟨sl,q3⟩:=up b o2 q2 nf
   exact ⟨_,q3⟩
  ·exact ⟨o',st b o' (kB b o' (.inr ⟨(by rw [hb];exact fun z=>(by cases z)),hf⟩) q)⟩
theorem Inv.unbound {j t:Nat} {n:Str} {h2:Heap} {m:Str->Option Value} {v:Option Value} (I:Inv X pins σ H s) (hN:X.N.Nodup) (hj:X.N[j]?=some n) (hn:s.heap.Ns X.env.locals m) (hl:∀ (i:Nat) (x:Str) (v:V),X.N[i]?=some x->σ[i]?=some (some v)->Vis X.env.scope x->∃ u,RelV v u/\Look X.env s.heap m x u)
  (hn':h2.Ns X.env.locals (fun x=>if x=n then v else m x)) (hs:Heap.SameBut X.env.locals s.heap h2):Inv X pins (σ.set j none) H { s with heap:=h2,toks:=t }:=by
 obtain ⟨oL,_,_,hoL,_⟩:=id hn
 have cne:=I.cne
 have hjσ:j < σ.length:=by rw [I.len];exact (List.getElem?_eq_some_iff.mp hj).1
 have far:∀ {b:Addr} {o:Obj},X.s₀.heap.get? b=some o->b≠X.env.locals:=fun e=>Nat.ne_of_lt (Nat.lt_of_lt_of_le (Heap.lt_size e) I.ok.above)
 refine ⟨I.ok,I.os,I.bare,⟨fun b o e n hb hx=>?_,fun b o e n hb hx=>?_,I.base.free,fun b o e hx=>?_,I.base.tups,I.base.frzs,I.base.tbls⟩,⟨_,hn',fun i y v' e1 e2 e3=>?_⟩,fun y c e=>?_,I.free,I.freeC,fun p hp=>?_,fun b ob e=>?_,by simpa using I.len⟩
 ·exact (hs.2 b (far e)).trans (I.base.keep b o e n hb hx)
 ·obtain ⟨sl,e1⟩:=I.base.slot b o e n hb hx
  exact ⟨sl,(hs.2 b (far e)).trans e1⟩
 ·obtain ⟨o',e1⟩:=I.base.there b o e hx
  exact ⟨o',(hs.2 b (far e)).trans e1⟩
 ·by_cases hi:i=j
  ·subst hi
   rw [getElem?_set_self hjσ] at e2
   cases e2
  ·rw [getElem?_set_ne (Ne.symm hi)] at e2
   obtain ⟨u',r',q⟩:=hl i y v' e1 e2 e3
   refine ⟨u',r',?_⟩
   rcases q with ⟨k,e⟩|⟨k,c,e,z⟩
   ·refine .inl ⟨k,?_⟩
    have:y≠n:=fun e=>hi (Zgu hN e1 (e▸hj))
    simp [this,e]
   ·exact .inr ⟨k,c,e,z.sameBut hs (cne y c e)⟩
 ·obtain ⟨w',z⟩:=I.cell y c e
  exact ⟨w',z.sameBut hs (cne y c e)⟩
 ·obtain ⟨e,n,ne,nf,d⟩:=I.pin p hp
  exact ⟨(hs.2 p.1 ne).trans e,n,ne,nf,d⟩
 ·refine (I.hok b ob e).stay (fun c w' hc q=>(hs.2 c ?_).trans q) (fun _ q=>q) fun _ _ q=>q
  rintro rfl
  rcases hc with rfl|hc
  ·rw [I.free] at e;cases e
  ·rw [I.free] at hc;cases hc
noncomputable def Cx.held (X:Cx) (a:Addr) (oe:Obj):Cx:={ X with A:=X.A.mark (some (.ref a)),calm:=false,pn:=(a,oe)::X.pn,xe:=fun _ _=>False }
theorem Inv.held {a : Addr} {oe : Obj} (I : Inv X pins σ H s) (e : s.heap.get? a = some oe) (n : H a = none) (nl : a ≠ X.env.locals) (nf : a ∉ X.fs) (nc : ∀ v, oe.data ≠ .cell v) : Inv (X.held a oe) pins σ H s :=
  ⟨⟨I.ok.mod, I.ok.kind, I.ok.glob, I.ok.blt, I.ok.above, I.ok.inj, I.ok.has, I.ok.cab, fun z => (by cases z), I.ok.frames, I.ok.stk, I.ok.exf, I.ok.bs, I.ok.bsz, I.ok.noex, I.ok.exfs, I.ok.funs, I.ok.frf⟩, I.os, I.bare, I.base, I.loc, I.cell, I.free, I.freeC,
    fun p hp => by
      rcases mem_cons.mp (show p ∈ (a, oe) :: (X.pn ++ pins) from hp) with rfl | hp
      · exact ⟨e, n, nl, nf, nc⟩
      · exact I.pin p hp, I.hok, I.len⟩
theorem Inv.unheld {a:Addr} {oe:Obj} (ok:X.Ok) (I:Inv (X.held a oe) pins σ H s):Inv X pins σ H s :=
 ⟨ok,I.os,I.bare,I.base,I.loc,I.cell,I.free,I.freeC,fun p hp=>I.pin p (mem_cons_of_mem _ hp),I.hok,I.len⟩
noncomputable def Zm5 (i j:Nat) (sp:Sp) (ta:TA) (th:Addr->TS):TS:=fun D σ H=>ta σ H fun vs H1=>sp vs H1 (fun v H2=>D.nx (σ.set i (some v)) H2)
 (fun _ _ H2=>∀ a,H2 a=none->th a { nx:=fun σ' H3=>D.nx (σ'.set j none) H3,rt:=fun _ _=>False } (σ.set j (some (.ref a))) H2)
theorem ZgW {M:Model} {h:Heap} {a:Addr} {ob:Obj} {c:Value} (e:h.get? a=some ob) (hc:ob.cls=c):PySem.W.Looks M h (typeOf (.ref a)) c:=by
 subst hc
 exact (PySem.W.Looks.ld e).andThen .now
theorem ZnF {i j k : Nat} {f L : Addr} {fd : FuncData} {ps : List Str} {sp : Sp} {fn x lx n : Str} {px p1 p2 p3 np hp pos : Pos} {e1 : Expr} {es : List Expr} {ta : TA} {th : Addr -> TS} {b0 : Stmt} {suite : List Stmt}
    (hst : X.stack = X.env :: X.outer) (hfm : X.env.frame = some X.env.locals) (hN : X.N.Nodup) (hi : X.N[i]? = some x) (hx : Loc X.env.scope x) (hf : X.fn x = true \/ X.env.scope.names.lookup x = some .local) (hj : X.N[j]? = some n) (hjl : X.env.kindOf n = some .local) (hjs : X.env.scope.names.lookup n = some .local)
    (F : FnOk X.prog X.w X.K X.mg X.base (Fly X.prog X.w C) k f fd ps sp) (hr : Room k X.A) (hg : Gl X fn) (hm : X.mg fn = some (.ref f)) (hk : PySem.W.keepIn X.K (.ref f) = true) (hb : Binds X.K fd ps []) (ha : PA X.nox (e1 :: es) ta)
    (hl : Gl X lx) (hlm : X.mg lx = some (.ref L)) (hex : PySem.W.exmOne X.K (.ref C) (.ref L) = some true)
    (hs : ∀ (a : Addr) (oe : Obj), oe.cls = .ref C -> (∃ vs, oe.data = .fields vs) -> PSs (X.held a oe) (b0 :: suite) (th a))
    (hsw : swapsWith (.Call (.Name fn p1) (e1 :: es) [] p2) (some (.Name x px)) p3.line X.env = pure false := by rfl)
    (hd : (fn == ("__debug__" : Str)) = false := by decide) (hd2 : (lx == ("__debug__" : Str)) = false := by decide) (he : starEach (e1 :: es) X.env = (false, eval e1 X.env) :: starEach es X.env := by rfl) (hpl : (backTo p2 (starEach es X.env)).any (·.1) = false := by rfl) :
    PS X (.Try [.Assign [.Name x px] (.Call (.Name fn p1) (e1 :: es) [] p2) p3] [.ExceptHandler (some (.Name lx np)) (some n) (b0 :: suite) hp] [] [] pos) (Zm5 i j sp ta th) := by
  intro pins s σ H D I h
  refine wpAny_Try_except (wpAny_execs_cons (wpAny_Assign_Name (wpAny_Call_Name_kw (ZdI I hg hm ?_ hd)) hsw))
  refine PySem.W.callWith_K (h₀ := X.base) I.ok.mod.kin hk ?_ he hpl
  refine wpAny_mono (ha p2 pins s σ H _ (I.wish _) h) (fun us s1 q => ?_) (fun _ _ z => False.elim z)
  obtain ⟨vs, H1, I1, rv, q1⟩ := q
  have I1 := I1.unwish
  refine ⟨I1.kIn, ?_⟩
  have hlen : (us ++ []).length = ps.length := by rw [append_nil, <- rv.length]; exact F.len _ _ _ _ q1
  have hb1 := hb s1 us I1.kIn hlen
  rw [append_nil] at hb1
  refine wpAny_call (codeAny_mono (F.run X.A X.stack s1 H1 ⟨us, []⟩ us vs _ _ hr I1.env0 hb1 rv q1) fun r s2 hq => ?_)
  cases r with
  | ok fl =>
    cases fl with
    | ret u =>
      obtain ⟨v, H2, I2, rv2, q2⟩ := I1.after hq
      exact Zd7 I2 hN hi hx rv2 (fun s3 I3 => wpAny_execs_nil (wpAny_execs_nil ⟨_, H2, I3, q2⟩)) hf
    | next => exact False.elim hq
    | brk => exact False.elim hq
    | cont => exact False.elim hq
  | error e =>
    refine opq ?_
    intro gg
    obtain ⟨a, H2, B, t, rfl, os, bare, un, hok, fl, kB, hw⟩ := hq
    rw [hst] at fl
    have hfr : X.A.frames = some (X.env :: X.outer) := by rw [<- hst]; exact I.ok.frames
    refine wpAny_looks_onW hfr hfm fl fun h4 held4 up4 => ?_
    refine wpAny_landsW held4 fun h5 fl5 up5 => ?_
    have I5 := I1.land os bare un hok kB fl5.1 (up4.trans up5)
    have hH2 : H2 a = none := by
      cases z : H2 a with
      | none => rfl
      | some u =>
        obtain ⟨o, ho⟩ := ObjOk.has (hok a u z)
        have := kB a o (.inl (by rw [z]; exact fun y => (by cases y))) ho
        rw [fl.2.1] at this
        cases this
    have nfr : ∀ {h6 : Heap} {pn : List (Addr × Obj)} {σ6 : St}, Heap.FlyingW B (X.env :: X.outer) a (.ref C) (.ref t) h6 -> a ≠ X.env.locals /\ a ∉ X.fs := fun {h6 _ _} fl6 => by
      obtain ⟨oe, ws, e1, _, e2, _⟩ := fl6.first
      have : ∀ b ∈ (X.env :: X.outer).filterMap (·.frame), b ≠ a := fun b hb z => by
        obtain ⟨_, o, ho, nf⟩ := fl6.2.2.1.mem hb
        rw [z, e1] at ho
        cases ho
        exact nf ws e2
      constructor
      · exact fun z => this X.env.locals (mem_filterMap.mpr ⟨X.env, mem_cons_self, hfm⟩) z.symm
      · intro z
        obtain ⟨env, he1, he2⟩ := mem_filterMap.mp z
        exact this a (mem_filterMap.mpr ⟨env, mem_cons_of_mem _ he1, he2⟩) rfl
    obtain ⟨oe5, ws5, e5, c5, d5, _⟩ := fl5.first
    have I5h := I5.held e5 hH2 (nfr (pn := []) (σ6 := []) fl5).1 (nfr (pn := []) (σ6 := []) fl5).2 (fun v z => by rw [d5] at z; cases z)
    refine wpAny_handleBy_cons (codeAny_handlers_test (ZdI (X := X.held a oe5) I5h hl hlm ?_ hd2)) (by intro q; cases q)
    refine (PySem.W.exm_one I5.kIn (ZgW e5 c5) hex).at ?_
    refine codeAny_handlers_suite_as ?_
    refine lands_againW fl5 fun h6 fl6 up6 => ?_
    have I6 := I1.land os bare un hok kB fl6.1 ((up4.trans up5).trans up6)
    obtain ⟨oe, ws, e6, c6, d6, _⟩ := fl6.first
    have I6h := I6.held e6 hH2 (nfr (pn := []) (σ6 := []) fl6).1 (nfr (pn := []) (σ6 := []) fl6).2 (fun v z => by rw [d6] at z; cases z)
    refine Zd7 (X := X.held a oe) I6h hN hj (.inl hjs) (v := .ref a) rfl (fun s7 I7 => ?_) (.inr hjs)
    refine wpAny_mono (hs a oe c6 ⟨ws, d6⟩ pins s7 _ H2 _ I7 (hw a hH2)) (fun fl s8 q => ?_) (fun _ _ z => False.elim z)
    cases fl with
    | next =>
      obtain ⟨σ', H3, I8, q8⟩ := q
      obtain ⟨m, hnm, hlk⟩ := I8.loc
      refine wpAny_nameGoes_keeps hjl hnm (by rw [I.ok.kind]; rfl) fun h9 v hn9 hs9 => ?_
      exact ⟨σ'.set j none, H3, (Inv.unheld I.ok I8).unbound hN hj hnm hlk hn9 hs9, q8⟩
    | ret u => obtain ⟨_, _, _, _, _, z⟩ := q; exact z.elim
    | brk => obtain ⟨_, _, _, z⟩ := q; exact z.elim
    | cont => obtain ⟨_, _, _, z⟩ := q; exact z.elim
end
end L2
end
section
namespace L2
open PySem PySem.Spec PyProof.Rows PySem.W PySem.Builtin PySem.Builtin.ObjectAttr PySem.Builtin.Getset_descriptor PySem.Calls
structure ExcK (K:Frag) (C:Addr):Prop where
 ga:findIn K (.ref C) "__getattribute__"=some (some (.builtin "BaseException.__getattribute__"))
 gh:findIn K (.ref C) "__getattr__"=some none
 fc:findIn K (.ref C) "__class__"=some (some (.builtin "object.__class__"))
 sg:specialIn K (.builtin "object.__class__") "__get__"=some (some (.builtin "getset_descriptor.__get__"))
 tk:takesIn K (.builtin "object.__class__")=some true
 mo:mroIn K C (.type "object")=some true
 mb:mroIn K C (.type "BaseException")=some true
 kc:kitCls K (.ref C) (.ref C)=some true
section
variable {prog:Program} {w:World} {A:Around} {E:Value->Shared->Prop} {s:Shared} {K:Frag} {a C:Addr} {oe:Obj}
theorem Zmb {M:Model} {h:Heap} (X:K.In h) (k:ExcK K C):Looks M h (Builtin.ObjectAttr.find (.ref a) (.ref C) "__class__") (.bind (.builtin "getset_descriptor.__get__") (.builtin "object.__class__")):=by
 have q1:=looks_findIn (M:=M) X k.fc
 have q2:=looks_specialIn (M:=M) X k.sg
 have q3:=looks_takesIn (M:=M) X k.tk
 unfold Builtin.ObjectAttr.find
 refine q1.andThen ?_
 refine Looks.andThen (a:=some (Value.builtin "getset_descriptor.__get__")) (t:=getOf (some (Value.builtin "object.__class__"))) ?_ ?_
 ·exact q2
 refine Looks.andThen (a:=some (.builtin "getset_descriptor.__get__",.builtin "object.__class__")) ?_ (Looks.tag .now)
 refine q3.andThen ?_
 exact .now
theorem Zob {tp:Value} {R:Result->Shared->Prop} (X:K.In s.heap) (e:s.heap.get? a=some oe) (c:oe.cls=.ref C) (k:ExcK K C) (h:R (.ok (.ret (.ref C))) s) :
  codeAny (model prog w) A (.call (.builtin "getset_descriptor.__get__") ⟨[.builtin "object.__class__",.ref a,tp],[]⟩) R s:=by
 obtain ⟨hh,g,dr,t,os⟩:=s
 have q0:=ZgW (M:=model prog w) e c
 have q1:=looks_mroIn (M:=model prog w) X k.mo
 refine codeAny_call_builtin KF.slot_gs.plain KF.entry_gs ?_
 refine KF.slot_gs.check _ _ _ _ _ _ _ _ KF.type_class (KF.args_gs _ _ _) ?_
 unfold Builtin.«getset_descriptor.__get__»
 unfold descrGet
 rw [dga_obj]
 refine wpAny_bind (wpAny_pure ?_)
 unfold descrGetter
 unfold descrCheckInstance descrNameAndClass
 unfold isInstance
 simp only [KF.owner_class]
 repeat lk
 refine ⟨Code.quiet_builtin _ (by decide +kernel),?_⟩
 refine codeAny_builtin KF.entry_class ?_
 unfold Builtin.«object.__class__»
 unfold shownTypeOf
 repeat lk
 exact h
theorem exc_ga {tk:Tok} {Q:Value->Shared->Prop} (X:K.In s.heap) (e:s.heap.get? a=some oe) (c:oe.cls=.ref C) (k:ExcK K C) (h:Q (.ref C) s) :
  wpAny (model prog w) A (call (.builtin "BaseException.__getattribute__") [.ref a,.str "__class__" tk]) Q E s:=by
 obtain ⟨hh,g,d,t,os⟩:=s
 have q0:=ZgW (M:=model prog w) e c
 have q1:=looks_mroIn (M:=model prog w) X k.mb
 have q2:=Zmb (M:=model prog w) (a:=a) X k
 have kd:builtinKind "BaseException.__getattribute__"=some .slot:=by decide +kernel
 have sd:splitId "BaseException.__getattribute__"=some ("BaseException","__getattribute__"):=by decide +kernel
 refine wpAny_call ?_
 refine codeAny_call_builtin F.attr_ValueError.ga.plain F.entry_bexc_ga ?_
 have hA:=F.args_bexc_ga (.ref a) (.str "__class__" tk)
 simp only [checkBuiltinCall,kd,sd]
 refine wpAny_bind ?_
 unfold isInstance
 repeat lk
 show wpAny _ _ (run (.call (.builtin "getset_descriptor.__get__") ⟨[.builtin "object.__class__",.ref a,.ref C],[]⟩) none) _ _ _
 refine wpAny_run ?_
 exact Zob (A:=A.in1) X e c k (wpAny_pure (wpAny_pure h))
theorem ZkN {Q:Option Value->Shared->Prop} (X:K.In s.heap) (e:s.heap.get? a=some oe) (c:oe.cls=.ref C) (k:ExcK K C) (h:Q (some (.ref C)) { s with toks:=s.toks+1 }) :
  wpAny (model prog w) A (getAttr? (.ref a) "__class__") Q E s:=by
 obtain ⟨hh,g,d,t,os⟩:=s
 have q0:=ZgW (M:=model prog w) e c
 have q1:=looks_findIn (M:=model prog w) X k.ga
 have q2:=looks_findIn (M:=model prog w) X k.gh
 unfold getAttr? getAttrBy? getAttrBy
 refine wpAny_bind (wpAny_mkText ?_)
 refine wpAny_bind (wpAny_attempt (wpAny_holding ?_))
 refine wpAny_bind (q0.at ?_)
 refine wpAny_bind (q1.at ?_)
 show wpAny _ _ (getAttrByItsOwn _ _ _ _ _ _) _ _ _
 unfold getAttrByItsOwn hookBefore
 refine wpAny_bind (q2.at ?_)
 refine wpAny_bind (wpAny_attempt (wpAny_holding ?_))
 show wpAny _ _ (boundAndCalled _ _ _) _ _ _
 unfold boundAndCalled
 refine wpAny_bind (wpAny_of_eq (F.attr_ValueError.ga.bind (.ref a)) ?_)
 refine exc_ga (s:=⟨hh,g,d,t+1,os⟩) X e c k ?_
 exact handed_on rfl (wpAny_pure h)
theorem Zma {cl : Value} {b : Bool} {dep : Int} {tk : Tok} {Q : Fin -> Shared -> Prop} (X : K.In s.heap) (e : s.heap.get? a = some oe) (c : oe.cls = .ref C) (k : ExcK K C) (kc : kitCls K (.ref C) cl = some b) (hb : b = false -> (Value.ref C == cl) = false)
    (h : ∀ t', Q (.done (.ret (.bool b))) { s with toks := t' }) : wpAny (model prog w) A (Builtin.«isinstance.nested» ⟨[.ref a, cl, .int dep tk], []⟩) Q E s := by
  obtain ⟨hh, g, d, t, os⟩ := s
  have q0 := ZgW (M := model prog w) e c
  obtain ⟨q1, q2, q3⟩ := kit_cls (M := model prog w) X kc
  obtain ⟨_, q4, _⟩ := kit_cls (M := model prog w) X k.kc
  have q5 : Looks (model prog w) hh (isInstance (.ref a) cl) b := q0.andThen q3
  unfold Builtin.«isinstance.nested»
  refine wpAny_bind (q0.at ?_)
  by_cases he : (Value.ref C == cl) = true
  · have hbt : b = true := by
      cases b with
      | true => rfl
      | false => rw [hb rfl] at he; cases he
    subst hbt
    rw [if_pos he]
    refine wpAny_bind (wpAny_rule ?_)
    exact wpAny_pure (h t)
  · rw [if_neg he]
    refine wpAny_bind (q1.at ?_)
    rw [if_pos (by decide)]
    k_delta "plainIsInstance"
    refine wpAny_bind (wpAny_bind (q2.at ?_))
    simp only [if_false, Bool.not_true, Bool.false_eq_true]
    refine wpAny_bind (q5.at ?_)
    cases b with
    | true =>
      simp only [if_true]
      exact wpAny_pure (wpAny_pure (h t))
    | false =>
      simp only [if_false, Bool.false_eq_true]
      refine wpAny_bind (ZkN (s := ⟨hh, g, d, t, os⟩) X e c k ?_)
      refine wpAny_bind (q4.at ?_)
      simp only [if_false, Bool.not_true, Bool.false_eq_true]
      refine wpAny_bind (wpAny_rule ?_)
      refine q3.at ?_
      exact wpAny_pure (h (t + 1))
theorem ZkM {cl:Value} {b:Bool} {Q:Value->Shared->Prop} (X:K.In s.heap) (e:s.heap.get? a=some oe) (c:oe.cls=.ref C) (k:ExcK K C) (kc:kitCls K (.ref C) cl=some b) (hb:b=false->(Value.ref C == cl)=false)
  (h:∀ t',Q (.bool b) { s with toks:=t' }):wpAny (model prog w) A (call (.builtin "isinstance") [.ref a,cl]) Q E s :=
 call_isinstance_of (Zma X e c k kc hb h) (by intro z;cases z)
end
end L2
end
section
namespace L2
open PySem PySem.Spec PyProof.Rows
noncomputable def spX1 (b:V->Hp->VK->XK->Prop):Sp:=fun vs H Q E=>∃ x,vs=[x]/\b x H Q E
noncomputable def spX2 (b:V->V->Hp->VK->XK->Prop):Sp:=fun vs H Q E=>∃ x y,vs=[x,y]/\b x y H Q E
theorem ZeY {b:V->Hp->VK->XK->Prop} {x:V} {H:Hp} {Q:VK} {E:XK} (h:b x H Q E):spX1 b [x] H Q E:=⟨x,rfl,h⟩
theorem ZiL {b:V->V->Hp->VK->XK->Prop} {x y:V} {H:Hp} {Q:VK} {E:XK} (h:b x y H Q E):spX2 b [x,y] H Q E:=⟨x,y,rfl,h⟩
structure CalleeX (P:Program) (w:World) (K:PySem.W.Frag) (mg:Str->Option Value) (base:Heap) (C:Addr) (x:Str) (k:Nat) (ps:List Str) (sp:Sp):Prop where
 ex:∃ f fd,FnOk P w K mg base (Fly P w C) k f fd ps sp/\mg x=some (.ref f)/\PySem.W.keepIn K (.ref f)=true/\Binds K fd ps []
section
variable {P:Program} {w:World} {K:PySem.W.Frag} {mg:Str->Option Value} {base:Heap} {x:Str} {st:Stmt} {ps N:List Str} {sp:Sp} {k:Nat} {C:Addr}
noncomputable def Zmq (P:Program) (w:World) (K:PySem.W.Frag) (mg:Str->Option Value) (base:Heap) (C:Addr) (N:List Str) (x:Str) (st:Stmt) (f:Addr) (cdv:Value) (A:Around) (outer:List Env) (s:Shared) (H:Hp) (vs:List V) (Q:VK) (E:XK):Prop :=
 ∃ t,PSs (cxOf (Fly P w C) P w K mg base N x (Zam st) f cdv A outer s H E) (ZbU st) t/\t { nx:=fun _ H'=>Q .non H',rt:=Q } (ZdD N vs) H
theorem TopFn.calleeX (T:TopFn K mg x st ps) (S:FnScope N ps (Zam st)) (len:∀ vs H Q E,sp vs H Q E->vs.length=ps.length)
  (h:∀ (f:Addr) (cdv:Value) (A:Around) (outer:List Env) (s:Shared) (H:Hp) (vs:List V) (Q:VK) (E:XK),Room k (A.deeper (envOfC x (Zam st) s.heap.objs.size f cdv))->sp vs H Q E->Zmq P w K mg base C N x st f cdv A outer s H vs Q E):CalleeX P w K mg base C x (k+1) ps sp:=by
 obtain ⟨f,fd,F,hm,hb⟩:=T.ex
 refine ⟨f,fd,?_,hm,F.kp,hb⟩
 obtain ⟨oc,od,kV,doc,pm,an,cdv,ct,osl,rfl,lk,hcd⟩:=F.ex
 exact fn_of lk hcd S len fun A outer s H vs Q E hr hsp=>h f cdv A outer s H vs Q E hr hsp
theorem TopFn.okX1 {a1:Str} {b:V->Hp->VK->XK->Prop} (T:TopFn K mg x st [a1]) (S:FnScope N [a1] (Zam st))
  (h:∀ (f:Addr) (cdv:Value) (A:Around) (outer:List Env) (s:Shared) (H:Hp) (v1:V) (Q:VK) (E:XK),Room k (A.deeper (envOfC x (Zam st) s.heap.objs.size f cdv))->b v1 H Q E->Zmq P w K mg base C N x st f cdv A outer s H [v1] Q E):CalleeX P w K mg base C x (k+1) [a1] (spX1 b) :=
 T.calleeX S (fun vs H Q E ⟨_,e,_⟩=>by rw [e];rfl) fun f cdv A outer s H vs Q E hr hsp=>by
  obtain ⟨v1,rfl,hb⟩:=hsp
  exact h f cdv A outer s H v1 Q E hr hb
theorem TopFn.okX2 {a1 a2:Str} {b:V->V->Hp->VK->XK->Prop} (T:TopFn K mg x st [a1,a2]) (S:FnScope N [a1,a2] (Zam st))
  (h:∀ (f:Addr) (cdv:Value) (A:Around) (outer:List Env) (s:Shared) (H:Hp) (v1 v2:V) (Q:VK) (E:XK),Room k (A.deeper (envOfC x (Zam st) s.heap.objs.size f cdv))->b v1 v2 H Q E->Zmq P w K mg base C N x st f cdv A outer s H [v1,v2] Q E):CalleeX P w K mg base C x (k+1) [a1,a2] (spX2 b) :=
 T.calleeX S (fun vs H Q E ⟨_,_,e,_⟩=>by rw [e];rfl) fun f cdv A outer s H vs Q E hr hsp=>by
  obtain ⟨v1,v2,rfl,hb⟩:=hsp
  exact h f cdv A outer s H v1 v2 Q E hr hb
theorem Zb2 {f:Addr} {cdv:Value} {A:Around} {outer:List Env} {s:Shared} {H:Hp} {vs:List V} {Q:VK} {E:XK} {t:TS} (σ:St) (hσ:ZdD N vs=σ) (h:PSs (cxOf (Fly P w C) P w K mg base N x (Zam st) f cdv A outer s H E) (ZbU st) t)
  (q:t { nx:=fun _ H'=>Q .non H',rt:=Q } σ H):Zmq P w K mg base C N x st f cdv A outer s H vs Q E:=⟨t,h,by rw [hσ];exact q⟩
theorem Zlr {E:XK} {t:TA} {D:Ends} {σ:St} {H:Hp} (h:t σ H fun vs H1=>vs.length<=1000/\E (.ref C) none H1):Zmu E C t D σ H:=h
end
theorem ZdG {P:Program} {w:World} {K:PySem.W.Frag} {mg:Str->Option Value} {base:Heap} {C:Addr} {N:List Str} {qual:Str} {scope:Scope} {f:Addr} {cd:Value} {A:Around} {outer:List Env} {s:Shared} {H:Hp} {E:XK} {x:Str} {k:Nat} {ps:List Str} {sp:Sp} {p pos:Pos} {e:Expr} {es:List Expr} {t:TA}
  (Cx:CalleeX P w K mg base C x k ps sp) (hr:Room k (A.deeper (envOfC qual scope s.heap.objs.size f cd))) (hg:Gl (cxOf (Fly P w C) P w K mg base N qual scope f cd A outer s H E) x) (ha:PA (cxOf (Fly P w C) P w K mg base N qual scope f cd A outer s H E) (e::es) t) (hdb:(x == ("__debug__":Str))=false:=by decide)
  (he:starEach (e::es) (cxOf (Fly P w C) P w K mg base N qual scope f cd A outer s H E).env=(false,eval e (cxOf (Fly P w C) P w K mg base N qual scope f cd A outer s H E).env)::starEach es (cxOf (Fly P w C) P w K mg base N qual scope f cd A outer s H E).env:=by rfl)
  (hpl:(backTo pos (starEach es (cxOf (Fly P w C) P w K mg base N qual scope f cd A outer s H E).env)).any (·.1)=false:=by rfl) :
  PE (cxOf (Fly P w C) P w K mg base N qual scope f cd A outer s H E) (.Call (.Name x p) (e::es) [] pos) (ZgY sp [] E t):=by
 obtain ⟨f',fd,F,hm,hk,hb⟩:=Cx.ex
 exact ZhK F hr hg hm hk hb .nil ZlN ha hdb he hpl
section
variable {X:Cx} {C:Addr}
theorem ZnG {i j k:Nat} {L:Addr} {ps:List Str} {sp:Sp} {fn x lx n:Str} {px p1 p2 p3 np hp pos:Pos} {e1:Expr} {es:List Expr} {ta:TA} {th:Addr->TS} {b0:Stmt} {suite:List Stmt}
  (Cc:CalleeX X.prog X.w X.K X.mg X.base C fn k ps sp) (hr:Room k X.A) (hst:X.stack=X.env::X.outer) (hfm:X.env.frame=some X.env.locals) (hN:X.N.Nodup) (hi:X.N[i]?=some x) (hx:Loc X.env.scope x) (hf:X.fn x=true\/X.env.scope.names.lookup x=some .local) (hj:X.N[j]?=some n) (hjl:X.env.kindOf n=some .local) (hjs:X.env.scope.names.lookup n=some .local)
  (hg:Gl X fn) (ha:PA X.nox (e1::es) ta) (hl:Gl X lx) (hlm:X.mg lx=some (.ref L)) (hex:PySem.W.exmOne X.K (.ref C) (.ref L)=some true)
  (hs:∀ (a:Addr) (oe:Obj),oe.cls=.ref C->(∃ vs,oe.data=.fields vs)->PSs (X.held a oe) (b0::suite) (th a))
  (hsw:swapsWith (.Call (.Name fn p1) (e1::es) [] p2) (some (.Name x px)) p3.line X.env=pure false:=by rfl)
  (hd:(fn == ("__debug__":Str))=false:=by decide) (hd2:(lx == ("__debug__":Str))=false:=by decide) (he:starEach (e1::es) X.env=(false,eval e1 X.env)::starEach es X.env:=by rfl) (hpl:(backTo p2 (starEach es X.env)).any (·.1)=false:=by rfl) :
  PS X (.Try [.Assign [.Name x px] (.Call (.Name fn p1) (e1::es) [] p2) p3] [.ExceptHandler (some (.Name lx np)) (some n) (b0::suite) hp] [] [] pos) (Zm5 i j sp ta th):=by
 obtain ⟨f,fd,F,hm,hk,hb⟩:=Cc.ex
 exact ZnF hst hfm hN hi hx hf hj hjl hjs F hr hg hm hk hb ha hl hlm hex hs hsw hd hd2 he hpl
theorem Zm9 {i j:Nat} {sp:Sp} {ta:TA} {th:Addr->TS} {D:Ends} {σ:St} {H:Hp} (h:ta σ H fun vs H1=>sp vs H1 (fun v H2=>D.nx (σ.set i (some v)) H2)
 (fun _ _ H2=>∀ a,H2 a=none->th a { nx:=fun σ' H3=>D.nx (σ'.set j none) H3,rt:=fun _ _=>False } (σ.set j (some (.ref a))) H2)):Zm5 i j sp ta th D σ H:=h
noncomputable def rIsX (K:PySem.W.Frag) (C a:Addr):List V->Hp->VK->Prop:=fun xs H Q=>(∃ L b,xs=[.ref a,.ref L]/\PySem.W.kitCls K (.ref C) (.ref L)=some b/\(b=false->(Value.ref C == Value.ref L)=false)/\Q (.bl b) H)\/∃ T b,xs=[.ref a,.ty T]/\PySem.W.kitCls K (.ref C) (.type T)=some b/\Q (.bl b) H
theorem Zeu {a:Addr} {oe:Obj} {K:PySem.W.Frag} (hK:X.K=K) (hc:oe.cls=.ref C) (k:ExcK K C):Zc9 (X.held a oe) (.builtin "isinstance") (rIsX K C a):=by
 subst hK
 intro pins s σ H xs us Q I r h
 have hp:=I.pin (a,oe) (mem_append_left _ (show (a,oe)∈(a,oe)::X.pn from mem_cons_self))
 rcases h with ⟨L,b,rfl,kc,hb,q⟩|⟨T,b,rfl,kc,q⟩
 ·obtain ⟨u,v,rfl,ru,rv⟩:=r.two
  cases ru
  cases rv
  exact ZkM I.kIn hp.1 hc k kc hb fun t'=>⟨.bl b,H,I.tok _,rfl,q⟩
 ·obtain ⟨u,v,rfl,ru,rv⟩:=r.two
  cases ru
  cases rv
  exact ZkM I.kIn hp.1 hc k kc (fun _=>rfl) fun t'=>⟨.bl b,H,I.tok _,rfl,q⟩
theorem ZjJ {K:PySem.W.Frag} {a L:Addr} {b:Bool} {H:Hp} {Q:VK} (kc:PySem.W.kitCls K (.ref C) (.ref L)=some b) (hb:b=false->(Value.ref C == Value.ref L)=false) (q:Q (.bl b) H):rIsX K C a [.ref a,.ref L] H Q:=.inl ⟨L,b,rfl,kc,hb,q⟩
theorem Znq {K:PySem.W.Frag} {a:Addr} {T:String} {b:Bool} {H:Hp} {Q:VK} (kc:PySem.W.kitCls K (.ref C) (.type T)=some b) (q:Q (.bl b) H):rIsX K C a [.ref a,.ty T] H Q:=.inr ⟨T,b,rfl,kc,q⟩
end
end L2
end
section
namespace L2
open PySem PySem.Spec PyProof.Rows
section
variable {M:Model} {A:Around} {E:Value->Shared->Prop} {s:Shared}
theorem Zkf {e:Value} {env env':Env} (h:env'.frame=env.frame):noteFrame e env'=noteFrame e env:=by
 unfold noteFrame PySem.frameOf
 rw [h]
theorem ZfD {h B B':Heap} (k:∀ b,B.get? b=none->B'.get? b=none):∀ {l:List Env},h.FunFrames B l->h.FunFrames B' l
 | [],_=>trivial
 | _::_,⟨a,⟨L,o,f1,f2,f3⟩,r⟩=>⟨a,⟨L,o,f1,k _ f2,f3⟩,ZfD k r⟩
noncomputable def Zh7 (B:Heap) (l:List Env) (e:Addr) (cls a0 fl:Value) (h:Heap):Prop:=B.StaysIn h/\B.get? e=none/\h.FunFrames B l/\h.TracedAtW B e cls a0 fl
theorem ZkG {B B' h:Heap} {l:List Env} {e:Addr} {cls a0 fl:Value} (x:Zh7 B l e cls a0 fl h) (k:∀ b o,B'.get? b=some o->B.get? b=some o):Zh7 B' l e cls a0 fl h:=by
 have kn:∀ b,B.get? b=none->B'.get? b=none:=fun b hb=>by
  cases q:B'.get? b with
  | none=>rfl
  | some o=>rw [k b o q] at hb;cases hb
 obtain ⟨x1,x2,x3,oe,vs,T,oT,ts,q1,q2,q3,q4,q5,q6⟩:=x
 exact ⟨fun b o hb=>x1 b o (k b o hb),kn _ x2,ZfD kn x3,oe,vs,T,oT,ts,q1,q2,q3,q4,kn _ q5,q6⟩
theorem Zl7 {B h h' : Heap} {l : List Env} {e C : Addr} {cls a0 fl : Value} {m : Str -> Option Value} (x : Zh7 B l e cls a0 fl h) (hC : B.get? C = none) (hn : h.Ns C m) (hl : C ∉ l.filterMap (·.frame)) (sb : Heap.SameBut C h h') : Zh7 B l e cls a0 fl h' := by
  obtain ⟨x1, x2, x3, oe, vs, T, oT, ts, q1, q2, q3, q4, q5, q6, q7, q8, q9⟩ := x
  obtain ⟨oc, es, ep, c1, c2, _⟩ := hn
  have nf : ∀ {b : Addr} {o : Obj} {ws : Array Value}, h.get? b = some o -> o.data = .fields ws -> b ≠ C := fun {b o ws} u v z => by
    rw [z, c1] at u
    cases u
    rw [c2] at v
    cases v
  refine ⟨fun b o hb => (sb.2 b (fun z => by rw [z, hC] at hb; cases hb)).trans (x1 b o hb), x2, ?_, oe, vs, T, oT, ts, (sb.2 e (nf q1 q3)).trans q1, q2, q3, q4, q5, q6, (sb.2 T (nf q7 q8)).trans q7, q8, q9⟩
  clear q1 q2 q3 q4 q5 q6 q7 q8 q9
  induction l with
  | nil => trivial
  | cons env r ih =>
    obtain ⟨y1, ⟨L, o, y2, y3, y4, y5⟩, y6⟩ := x3
    have hm : L ∈ (env :: r).filterMap (·.frame) := mem_filterMap.mpr ⟨env, mem_cons_self, y2⟩
    refine ⟨y1, ⟨L, o, y2, y3, (sb.2 L (fun z => hl (z ▸ hm))).trans y4, y5⟩, ih (fun z => hl ?_) y6⟩
    obtain ⟨e1, m1, m2⟩ := mem_filterMap.mp z
    exact mem_filterMap.mpr ⟨e1, mem_cons_of_mem _ m1, m2⟩
theorem ZlP {B:Heap} {l:List Env} {e:Addr} {cls a0 fl:Value} {what:String} {cenv:Env} {Q:Value->Shared->Prop} (hh:Zh7 B l e cls a0 fl s.heap)
  (hQ:∀ h' fl',Zh7 B l e cls a0 fl' h'->s.heap.UpToSlots h'->E (.ref e) { s with heap:=h' }):wpAny M A (PySem.passOn what (.ref e) cenv:Sem Value) Q E s:=by
 obtain ⟨x1,x2,x3,oe,vs,T,oT,ts,q1,q2,q3,q4,q5,q6,q7,q8,q9⟩:=hh
 have hz:3 < ts.size:=(Array.getElem?_eq_some_iff.mp q9).1
 unfold PySem.passOn
 refine wpAny_bind (wpAny_field q1 q3 q4 ?_)
 rw [if_neg (show ¬ (Value.ref T == Value.none)=true by simp)]
 have go:wpAny M A (setFlight (.ref e) cenv.frame) (fun _ s'=>wpAny M A (throw (.ref e):Sem Value) Q E s') E s:=by
  unfold setFlight
  refine wpAny_bind (wpAny_field q1 q3 q4 ?_)
  rw [if_pos (show (Value.ref T != Value.none)=true by simp)]
  refine wpAny_setField q7 q8 hz (wpAny_throw (hQ _ (cenv.frame.elim .none fun f=>rawInt f) ?_ ?_))
  ·have oth:∀ b,b≠T->(s.heap.update T (Obj.mapFields (·.setIfInBounds 3 (cenv.frame.elim Value.none fun f=>rawInt f)))).get? b=s.heap.get? b:=fun b hb=>Heap.get?_update_other _ _ (Ne.symm hb)
   have nT:∀ b o,s.heap.get? b=some o->(∀ ws,o.data≠.fields ws)->b≠T:=fun b o hb hn z=>by
    rw [z,q7] at hb
    cases hb
    exact hn ts q8
   refine ⟨fun b o hb=>(oth b (fun z=>by rw [z,q5] at hb;cases hb)).trans (x1 b o hb),x2,x3.of_keeps fun b o hb hn=>⟨o,(oth b (nT b o hb hn)).trans hb,rfl⟩,
    oe,vs,T,_,_,(oth e (Ne.symm q6)).trans q1,q2,q3,q4,q5,q6,Heap.get?_update_self _ q7 (Obj.isFreed_of_fields (Obj.data_mapFields q8 _)),Obj.data_mapFields q8 _,by simp [hz]⟩
  ·intro b o hb hn
   refine ⟨o.slots,(Heap.get?_update_other _ _ (fun z=>?_)).trans hb⟩
   rw [<-z,q7] at hb
   cases hb
   exact hn ts q8
 first
  | exact wpAny_bind (wpAny_pure (wpAny_bind go))
  | exact wpAny_bind go
theorem ZiX {B:Heap} {env:Env} {outer:List Env} {L e:Addr} {cls a0 fl:Value} {Q:Unit->Shared->Prop} (hfr:A.frames=some (env::outer)) (hf:env.frame=some L)
  (hh:Zh7 B (env::outer) e cls a0 fl s.heap) (hQ:∀ h',Heap.FlyingW B outer e cls a0 h'->s.heap.UpToSlots h'->Q () { s with heap:=h' }):wpAny M A (leaving env (.ref e)) Q E s:=by
 by_cases hb:fl=rawInt L
 ·subst hb
  unfold leaving
  refine wpAny_bind (wpAny_noteFrame_againW hf hh.2.2.2 ?_)
  refine wpAny_landsW (l:=env::outer) hh fun h' x up=>hQ h' ⟨x.1,x.2.1,x.2.2.1.2.2,x.2.2.2⟩ up
 ·obtain ⟨x1,x2,x3,oe,vs,T,oT,ts,q1,⟨q2,q2'⟩,q3,q4,q5,q6,q7,q8,q9⟩:=hh
  subst q2
  unfold leaving noteFrame
  simp only [hf]
  refine wpAny_bind (wpAny_bind (wpAny_field q1 q3 q4 ?_))
  rw [if_pos (show (Value.ref T != Value.none)=true by simp)]
  refine wpAny_bind (wpAny_field q7 q8 q9 ?_)
  rw [if_neg (show ¬ (fl == rawInt L)=true by simpa using hb)]
  refine wpAny_bind (wpAny_setField q7 q8 (Array.getElem?_eq_some_iff.mp q9).1 ?_)
  have oth:∀ b,b≠T->(s.heap.update T (Obj.mapFields (·.setIfInBounds 3 Value.none))).get? b=s.heap.get? b:=fun b hb=>Heap.get?_update_other _ _ (Ne.symm hb)
  have nT:∀ b o,s.heap.get? b=some o->(∀ ws,o.data≠.fields ws)->b≠T:=fun b o hb hn z=>by
   rw [z,q7] at hb
   cases hb
   exact hn ts q8
  refine wpAny_newEntryW hfr (x3.of_keeps fun b o hb hn=>⟨o,(oth b (nT b o hb hn)).trans hb,rfl⟩) hf ((oth e (Ne.symm q6)).trans q1) (fun b o hb=>(oth b (fun z=>by rw [z,q5] at hb;cases hb)).trans (x1 b o hb)) x2 q3
   (Array.getElem?_eq_some_iff.mp q4).1 q2' fun h' ⟨y1,y2,y3,y4⟩=>hQ h' ⟨y1,x2,y2.2.2,y3⟩ fun b o hb hn=>y4 b o ((oth b (nT b o hb hn)).trans hb) hn
end
section
variable {P:Program} {w:World} {K:PySem.W.Frag} {mg:Str->Option Value} {base:Heap} {C:Addr} {N:List Str} {qual:Str} {scope:Scope} {f:Addr} {cd:Value} {A:Around} {outer:List Env} {s:Shared} {H:Hp} {E:XK}
theorem ZnO {LN FN : List Str} {sc : Scope} {cl : List (Str × Addr)} {D : Addr} {fp : List Addr} {pins : List (Addr × Obj)} {s2 : Shared} {H2 : Hp} (hin : BkIn (cxOf (Fly P w C) P w K mg base N qual scope f cd A outer s H E) D fp pins s2 H2) :
    Zge (Fly P w C) (bkX (cxOf (Fly P w C) P w K mg base N qual scope f cd A outer s H E) LN FN sc cl D fp pins s2 H2) E := by
  intro pl σ1 H1 s1 e s3 I h
  obtain ⟨a, H3, B, t, rfl, os, bare, un, hok, fl, kB, he⟩ := h
  obtain ⟨⟨σ0, I0⟩, f2, hC⟩ := hin
  have I := I.unwish
  show wpAny _ _ (noteFrame (.ref a) (compEnvC sc cl D (envOfC qual scope s.heap.objs.size f cd))) _ _ s3
  rw [Zkf (env := envOfC qual scope s.heap.objs.size f cd) (env' := compEnvC sc cl D (envOfC qual scope s.heap.objs.size f cd)) rfl]
  refine wpAny_looks_onW I0.ok.frames rfl fl fun h4 held4 up4 => ?_
  have I4b := I.land os bare un hok kB held4.1 up4
  have I4 := I0.call' (s' := { s3 with heap := h4 }) (ch := fp) I4b.os I4b.base I4b.hok I4b.bare fun b hb => by
    obtain ⟨_, n1, n2, n3, n4, n5⟩ := f2 b hb
    exact ⟨n3, n1, n4, n5⟩
  have nD : H3 D = none := I4b.free
  have fD := I0.fpOk (H' := H3) hC nD
  obtain ⟨m, hn, _⟩ := I4b.loc
  refine ⟨m, hn, fun h5 sb cenv _ => ?_⟩
  have hn : h4.Ns D m := hn
  have hd5 := Zl7 (ZkG held4 (fun b o (q : (B.hide D).get? b = some o) => Heap.of_hide q)) (Heap.hide_self B D) hn (fun z => (mem_cons.mp (I0.stkSub D z)).elim fD.2.1 fD.2.2.1) sb
  have I5 := I4.turned (h' := h5) (t' := s3.toks) (fun b o hb e => (sb.2 b hb).trans e) nD fD.2.1 fD.2.2.2.1 fD.2.2.2.2.1 fD.2.2.2.2.2
  refine ZlP (s := { s3 with heap := h5 }) hd5 fun h6 fl6 hd6 up6 => ?_
  refine ZiX (s := { s3 with heap := h6 }) I0.ok.frames rfl hd6 fun h7 fl7 up7 => ?_
  refine (fun r => r : Fly P w C outer H s E (.ref a) { s3 with heap := h7 } -> Fly P w C outer H s E (.ref a) { s3 with heap := h7 }) ?_
  refine Zj6 (s1 := { s3 with heap := h5 }) I5 (fun b o hb q => ?_) fl7 (up6.trans up7) he
  have lt : ∀ {b : Addr}, s.heap.get? b ≠ none -> b < s.heap.objs.size := fun {b} hb => by
    cases z : s.heap.get? b with
    | none => exact absurd z hb
    | some u => exact Heap.lt_size z
  have nbD : b ≠ D := by
    rintro rfl
    rcases hb with hb | ⟨hb, _⟩
    · exact hb nD
    · exact absurd (lt hb) (Nat.not_lt.mpr (Nat.le_trans I0.sz hC))
  rw [Heap.hide_ne _ nbD]
  have q4 : h4.get? b = some o := (sb.2 b nbD).symm.trans q
  have hb' : H3 b ≠ none \/ (s1.heap.get? b ≠ none /\ b ∉ frs (envOfC qual scope s.heap.objs.size f cd :: outer)) := by
    rcases hb with hb | ⟨hb, hn⟩
    · exact .inl hb
    · refine .inr ⟨?_, Zfu hb hn⟩
      cases z : s.heap.get? b with
      | none => exact absurd z hb
      | some u =>
        obtain ⟨o1, z1⟩ := I0.base.there b u z (show b ∉ ([] : List Addr) by simp)
        obtain ⟨o2, z2⟩ := I.base.there b o1 z1 (fun hm => by
          rcases (f2 b hm).2.2.2.1 with z' | z'
          · exact absurd z' (show b ∉ ([] : List Addr) by simp)
          · exact absurd (lt hb) (Nat.not_lt.mpr z'))
        rw [z2]
        exact fun z => by cases z
  have h3 : ∃ o3, s3.heap.get? b = some o3 := by
    rcases hb' with hb | ⟨hb, _⟩
    · cases z : H3 b with
      | none => exact absurd z hb
      | some u => exact ObjOk.has (hok b u z)
    · cases z : s1.heap.get? b with
      | none => exact absurd z hb
      | some u => exact un.there b u z (by simp)
  obtain ⟨o3, z3⟩ := h3
  have h1 := kB b o3 hb' z3
  have h2 := held4.1 b o3 h1
  rw [q4] at h2
  cases h2
  exact h1
end
end L2
end
section
namespace L2
open PySem PySem.Spec PyProof.Rows
section
variable {X:Cx} {tg elt iter:Expr} {ifs:List Expr} {sc:Scope} {pos:Pos} {LN FN:List Str} {fr:List Nat} {wi:TI} {g:TG} {tt:TT} {te:TE}
theorem ZlJ {i:Nat} {x:Str} {pos' pos2:Pos} (hc:X.calm=true) (hN:X.N.Nodup) (hix:X.N[i]?=some x) (hx:X.env.scope.names.lookup x=some .local) (S:BkScope X.N sc X.env.scope LN FN fr) (hi:PI X tg iter wi)
  (hg:∀ cl C fp pins s H,PG (bkCx X LN FN sc cl C fp pins s H) tg g) (ht:∀ cl C fp pins s H,PTs (bkCx X LN FN sc cl C fp pins s H) ifs tt) (he:∀ cl C fp pins s H,BkIn X C fp pins s H->PE (bkX X LN FN sc cl C fp pins s H) elt te)
  (hsw:swapsWith (.ListComp elt [⟨tg,iter,ifs,0⟩] sc pos) (some (.Name x pos')) pos2.line X.env=pure true:=by rfl)
  (hs:∀ x,foldedSetIterable iter X.env x=pure x:=by intro _;rfl):PS X (.Assign [.Name x pos'] (.ListComp elt [⟨tg,iter,ifs,0⟩] sc pos) pos2) (tAsg (Zjk LN fr wi g tt te) (Zd2 i)):=by
 intro pins s σ H D0 I h
 rw [exec_Assign_Name_used _ _ _ _ hsw]
 refine wpAny_bind (wpAny_standAt (wpAny_bind ?_))
 show wpAny _ X.A (do let _ <- comprehension (.ListComp elt [⟨tg,iter,ifs,0⟩] sc pos) sc X.env _ (newList []) false (eval iter X.env) (some (assign (.Name x pos') X.env))) _ _ s
 obtain ⟨cl,ecl,h1,h2⟩:=ZdU (scope:=sc) (env:=X.env) fun y hy hk=>I.ok.has y.1 (S.free y hy hk)
 refine wpAny_bind (wpAny_mono (wpAny_comprehension_free (use:=some (assign (.Name x pos') X.env)) (Q:=fun _ s'=>SP X pins D0 .next s') rfl hs ecl S.kind S.names (thn (hi pins s σ H _ I h) fun v s1 q1=>thn q1 fun itv s2 q2=>?_))
  (fun _ s' hq=>wpAny_pure (wpAny_pure hq)) fun _ _ e=>e)
 obtain ⟨it,fp,tn,J,H2,e,I2,T,st2,f2,W,⟨m0,w0⟩,turn⟩:=q2
 subst e
 refine ZgS (R:=fun acc C=>compPost (model X.prog X.w) X.A X.xe (some (assign (.Name x pos') X.env)) (fun _ s'=>SP X pins D0 .next s') acc C) hc S hg ht he h1 h2 I2 T st2 f2 w0 turn (fun D C s' H' ys m hn J fC q=>?_) (fun _ _ _ _ z=>z)
 show wpAny _ X.A (assign (.Name x pos') X.env (.ref D)) _ _ s'
 refine wpAny_assign_Name (Zfe J hN hix (.inl hx) (show RelV (.ref D) (.ref D) from rfl) (fun s'' J2 ⟨a,sb2,ha⟩=>?_) (.inr hx))
 have nCa:C≠a:=by
  rcases ha with z|z
  ·rw [z];exact fC.2.1
  ·exact fun q=>fC.2.2.2.2.1 x a z q.symm
 refine ⟨m,hn.sameBut sb2 nCa,fun h' sb=>⟨_,_,J2.turned (t':=s''.toks) (fun b o hb e=>(sb.2 b hb).trans e) fC.1 fC.2.1 fC.2.2.2.1 fC.2.2.2.2.1 fC.2.2.2.2.2,q⟩⟩
end
theorem ZeG {P:Program} {w:World} {K:PySem.W.Frag} {mg:Str->Option Value} {base:Heap} {C:Addr} {N:List Str} {qual:Str} {scope:Scope} {f:Addr} {cd:Value} {A:Around} {outer:List Env} {s:Shared} {H:Hp} {E:XK} {x:Str} {k:Nat} {ps:List Str} {sp:Sp} {p pos:Pos} {e:Expr} {es:List Expr} {t:TA}
  {LN FN:List Str} {sc:Scope} {cl:List (Str×Addr)} {D:Addr} {fp:List Addr} {pins:List (Addr×Obj)} {s2:Shared} {H2:Hp} (hin:BkIn (cxOf (Fly P w C) P w K mg base N qual scope f cd A outer s H E) D fp pins s2 H2)
  (Cx:CalleeX P w K mg base C x k ps sp) (hr:Room k (A.deeper (envOfC qual scope s.heap.objs.size f cd))) (hg:Gl (bkX (cxOf (Fly P w C) P w K mg base N qual scope f cd A outer s H E) LN FN sc cl D fp pins s2 H2) x) (ha:PA (bkX (cxOf (Fly P w C) P w K mg base N qual scope f cd A outer s H E) LN FN sc cl D fp pins s2 H2) (e::es) t) (hdb:(x == ("__debug__":Str))=false:=by decide)
  (he:starEach (e::es) (bkX (cxOf (Fly P w C) P w K mg base N qual scope f cd A outer s H E) LN FN sc cl D fp pins s2 H2).env=(false,eval e (bkX (cxOf (Fly P w C) P w K mg base N qual scope f cd A outer s H E) LN FN sc cl D fp pins s2 H2).env)::starEach es (bkX (cxOf (Fly P w C) P w K mg base N qual scope f cd A outer s H E) LN FN sc cl D fp pins s2 H2).env:=by rfl)
  (hpl:(backTo pos (starEach es (bkX (cxOf (Fly P w C) P w K mg base N qual scope f cd A outer s H E) LN FN sc cl D fp pins s2 H2).env)).any (·.1)=false:=by rfl) :
  PE (bkX (cxOf (Fly P w C) P w K mg base N qual scope f cd A outer s H E) LN FN sc cl D fp pins s2 H2) (.Call (.Name x p) (e::es) [] pos) (ZgY sp [] E t):=by
 obtain ⟨f',fd,F,hm,hk,hb⟩:=Cx.ex
 exact ZhK F hr hg hm hk hb .nil (ZnO hin) ha hdb he hpl
end L2
end
section
namespace L2
open PySem PySem.Spec PyProof.Rows
theorem ZhD {M:Model} {Γ:PySem.Ctx} {p:Pos} {t:Sem Fin} {fs:List Frame} {s:Shared} {e:End} {s':Shared} (h:Runs M Γ p t fs s e s'):s.toks<=s'.toks:=by
 induction h with
 | done=>exact Nat.le_refl _
 | raise=>exact Nat.le_refl _
 | again _ _ ih=>exact ih
 | rule _ ih=>exact ih
 | «at» _ ih=>exact ih
 | load _ _ ih=>exact ih
 | update _ _ ih=>exact ih
 | loadIfAlive _ ih=>exact ih
 | point _ ih=>exact ih
 | alloc _ ih=>exact ih
 | fresh _ ih=>exact Nat.le_trans (Nat.le_succ _) ih
 | ask _ ih=>exact ih
 | choose _ _ ih=>exact ih
 | os _ ih=>exact ih
 | handled _ ih=>exact ih
 | genState _ _ ih=>exact ih
 | stack _ ih=>exact ih
 | thread _ ih=>exact ih
 | newGen _ ih=>exact ih
 | call _ _ ih1 ih2=>exact Nat.le_trans ih1 ih2
 | callSusp _ ih=>exact ih
 | «yield»=>exact Nat.le_refl _
 | resumeFresh _ _ _ _ ih1 ih2=>exact Nat.le_trans ih1 ih2
 | resumeSuspended _ _ _ _ ih1 ih2=>exact Nat.le_trans ih1 ih2
 | resumeJustStarted _ _ _ ih=>exact ih
 | resumeThrowFresh _ _ ih=>exact ih
 | resumeRunning _ _ ih=>exact ih
 | resumeFinished _ _ ih=>exact ih
 | segRet _ _ ih1 ih2=>exact Nat.le_trans ih1 ih2
 | segGen _ _ ih1 ih2=>exact Nat.le_trans ih1 ih2
 | segSuspOut _ _ ih=>exact ih
 | segSuspGen _ _ _ _ ih1 ih2=>exact Nat.le_trans ih1 ih2
theorem Zlf {M:Model} {Γ:PySem.Ctx} {p:Pos} {g:Nat} {r:Resume} {s:Shared} {res:GenResult} {s':Shared} (h:Wakes M Γ p g r s res s'):s.toks<=s'.toks:=by
 unfold Wakes at h
 split at h
 ·exact h.elim
 ·split at h
  ·obtain ⟨e₁,s₁,h1,_,_,rfl⟩:=h
   have:=ZhD h1
   exact this
  ·rw [h.2];exact Nat.le_refl _
  ·rw [h.2];exact Nat.le_refl _
 ·obtain ⟨e₁,s₁,h1,_,_,rfl⟩:=h
  have:=ZhD h1
  exact this
 ·rw [h.2];exact Nat.le_refl _
 ·rw [h.2];exact Nat.le_refl _
theorem Zda {α : Type} {M : Model} {Γ : PySem.Ctx} {n : Nat} : ∀ (t : Sem α) {Q : α -> Pos -> Shared -> Prop} {E : Value -> Pos -> Shared -> Prop} {p : Pos} {s : Shared}, n <= s.toks -> Sem.wp M Γ t Q E p s -> Sem.wp M Γ t (fun a p' s' => n <= s'.toks /\ Q a p' s') (fun e p' s' => n <= s'.toks /\ E e p' s') p s
  | .pure a, Q, E, p, s, hn, h => by rw [Sem.wp] at h ⊢; exact ⟨hn, h⟩
  | .raise e, Q, E, p, s, hn, h => by rw [Sem.wp] at h ⊢; exact ⟨hn, h⟩
  | .unsupported _, Q, E, p, s, hn, h => by rw [Sem.wp] at h; exact h.elim
  | .finish _, Q, E, p, s, hn, h => by rw [Sem.wp] at h; exact h.elim
  | .rule _ k, Q, E, p, s, hn, h => by rw [Sem.wp] at h ⊢; exact Zda (k ()) hn h
  | .at p' k, Q, E, p, s, hn, h => by rw [Sem.wp] at h ⊢; exact Zda (k ()) hn h
  | .load a _ k, Q, E, p, s, hn, h => by
    rw [Sem.wp] at h ⊢
    obtain ⟨o, h1, h2⟩ := h
    exact ⟨o, h1, Zda (k o) hn h2⟩
  | .update a _ f k, Q, E, p, s, hn, h => by
    rw [Sem.wp] at h ⊢
    exact ⟨h.1, Zda (k ()) hn h.2⟩
  | .loadIfAlive a k, Q, E, p, s, hn, h => by rw [Sem.wp] at h ⊢; exact Zda (k _) hn h
  | .point _ k, Q, E, p, s, hn, h => by rw [Sem.wp] at h ⊢; exact Zda (k ()) hn h
  | .register _ _, Q, E, p, s, hn, h => by rw [Sem.wp] at h; exact h.elim
  | .alloc o k, Q, E, p, s, hn, h => by rw [Sem.wp] at h ⊢; exact Zda (k _) hn h
  | .fresh k, Q, E, p, s, hn, h => by rw [Sem.wp] at h ⊢; exact Zda (k _) (Nat.le_trans hn (Nat.le_succ _)) h
  | .ask k, Q, E, p, s, hn, h => by rw [Sem.wp] at h ⊢; exact Zda (k _) hn h
  | .choose src m k, Q, E, p, s, hn, h => by
    rw [Sem.wp] at h ⊢
    exact ⟨h.1, Zda (k _) hn h.2⟩
  | .os q _ k, Q, E, p, s, hn, h => by rw [Sem.wp] at h ⊢; exact Zda (k _) hn h
  | .call c hh _ _ k, Q, E, p, s, hn, h => by
    rw [Sem.wp] at h ⊢
    obtain ⟨r, s', h1, h2⟩ := h
    exact ⟨r, s', h1, Zda (k r) (Nat.le_trans hn (ZhD h1)) h2⟩
  | .handled own k, Q, E, p, s, hn, h => by rw [Sem.wp] at h ⊢; exact Zda (k _) hn h
  | .genState g k, Q, E, p, s, hn, h => by
    rw [Sem.wp] at h ⊢
    obtain ⟨st, h1, h2⟩ := h
    exact ⟨st, h1, Zda (k _) hn h2⟩
  | .newGen c k, Q, E, p, s, hn, h => by rw [Sem.wp] at h ⊢; exact Zda (k _) hn h
  | .resume g r _ k, Q, E, p, s, hn, h => by
    rw [Sem.wp] at h ⊢
    obtain ⟨res, s', h1, h2⟩ := h
    exact ⟨res, s', h1, Zda (k res) (Nat.le_trans hn (Zlf h1)) h2⟩
  | .yield .., Q, E, p, s, hn, h => by rw [Sem.wp] at h; exact h.elim
  | .stack k, Q, E, p, s, hn, h => by rw [Sem.wp] at h ⊢; exact Zda (k _) hn h
  | .fork .., Q, E, p, s, hn, h => by rw [Sem.wp] at h; exact h.elim
  | .thread k, Q, E, p, s, hn, h => by rw [Sem.wp] at h ⊢; exact Zda (k _) hn h
  | .await .., Q, E, p, s, hn, h => by rw [Sem.wp] at h; exact h.elim
theorem Zle {α:Type} {M:Model} {A:Around} {t:Sem α} {Q:α->Shared->Prop} {E:Value->Shared->Prop} {s:Shared} {n:Nat} (hn:n<=s.toks) (h:wpAny M A t Q E s):wpAny M A t (fun a s'=>n<=s'.toks/\Q a s') (fun e s'=>n<=s'.toks/\E e s') s:=fun Γ p hΓ=>Zda t hn (h Γ p hΓ)
theorem up1 {α:Type} {M:Model} {A:Around} {t:Sem α} {Q:α->Shared->Prop} {E:Value->Shared->Prop} {s:Shared} (hn:1<=s.toks) (h:wpAny M A t Q E s):wpAny M A t (fun a s'=>1<=s'.toks/\Q a s') E s:=wpAny_mono (Zle hn h) (fun _ _ x=>x) fun _ _ x=>x.2
noncomputable def PES (X:Cx) (e:Expr) (t:TE):Prop :=
 ∀ (pins:List (Addr×Obj)) (s:Shared) (σ:St) (H:Hp) (Q:VK),Inv X pins σ H s->t σ H Q->wpAny (model X.prog X.w) X.A (eval e X.env) (fun v s'=>1<=s'.toks/\EP X pins σ Q v s') X.xe s
noncomputable def PAS (X:Cx) (es:List Expr) (t:TA):Prop :=
 ∀ (pos:Pos) (pins:List (Addr×Obj)) (s:Shared) (σ:St) (H:Hp) (Q:List V->Hp->Prop),Inv X pins σ H s->t σ H Q->wpAny (model X.prog X.w) X.A (spliced (backTo pos (starEach es X.env))) (fun v s'=>1<=s'.toks/\AP X pins σ Q v s') X.xe s
noncomputable def PSS (X:Cx) (st:Stmt) (t:TS):Prop :=
 ∀ (pins:List (Addr×Obj)) (s:Shared) (σ:St) (H:Hp) (D:Ends),Inv X pins σ H s->t D σ H->wpAny (model X.prog X.w) X.A (exec st X.env) (fun f s'=>1<=s'.toks/\SP X pins D f s') X.xe s
noncomputable def PSsS (X:Cx) (st:List Stmt) (t:TS):Prop :=
 ∀ (pins:List (Addr×Obj)) (s:Shared) (σ:St) (H:Hp) (D:Ends),Inv X pins σ H s->t D σ H->wpAny (model X.prog X.w) X.A (execs st X.env) (fun f s'=>1<=s'.toks/\SP X pins D f s') X.xe s
section
variable {X:Cx}
theorem ZnP {i:Int} {k:Nat} {p:Pos}:PAS X [.Constant (.int i) k p] (Zc0 (tC (.int i)) tNil):=by
 intro pos pins s σ H Q I h
 show wpAny _ _ (spliced ((false,eval (.Constant (.int i) k p) X.env)::backTo pos (starEach [] X.env))) _ _ s
 refine Calls.spliced_cons (wpAny_Constant_int ?_)
 refine up1 (Nat.succ_le_succ (Nat.zero_le _)) ?_
 exact thn (Zab pos pins { s with toks:=s.toks+1 } σ H _ (I.tok _) (show tNil σ H fun xs H2=>Q (.int i::xs) H2 from h)) fun us s2 ⟨xs,H2,I2,r2,q2⟩=>⟨.int i::xs,H2,I2,.cons ⟨_,rfl⟩ r2,q2⟩
theorem Zj2 {x:Str} {pos:Pos} {te:TE} {es:List Expr} {t:TA} (ha:PE X (.Name x pos) te) (hr:PAS X es t):PAS X (.Name x pos::es) (Zc0 te t):=by
 intro pos' pins s σ H Q I h
 show wpAny _ _ (spliced ((false,eval (.Name x pos) X.env)::backTo pos' (starEach es X.env))) _ _ s
 refine Calls.spliced_cons (thn (ha pins s σ H _ I h) fun u s1 ⟨x,H1,I1,r1,q1⟩=>?_)
 exact thn (hr pos' pins s1 σ H1 _ I1 q1) fun us s2 ⟨hn,xs,H2,I2,r2,q2⟩=>⟨hn,x::xs,H2,I2,.cons r1 r2,q2⟩
theorem ZlM {CX:CXT} {x:Str} {p pos:Pos} {e:Expr} {es:List Expr} {t:TA} {k:Nat} {f:Addr} {fd:FuncData} {ps:List Str} {sp:Sp} {ds:List Value} {dvs:List V} {E:XK} (F:FnOk X.prog X.w X.K X.mg X.base CX k f fd ps sp) (hr:Room k X.A) (hg:Gl X x) (hm:X.mg x=some (.ref f)) (hk:PySem.W.keepIn X.K (.ref f)=true) (hb:Binds X.K fd ps ds) (hd:Vals dvs ds) (hx:Zge CX X E)
  (ha:PAS X (e::es) t) (hdb:(x == ("__debug__":Str))=false:=by decide) (he:starEach (e::es) X.env=(false,eval e X.env)::starEach es X.env:=by rfl) (hpl:(backTo pos (starEach es X.env)).any (·.1)=false:=by rfl) :
  PES X (.Call (.Name x p) (e::es) [] pos) (ZgY sp dvs E t):=by
 intro pins s σ H Q I h
 refine wpAny_Call_Name_kw (ZdI I hg hm ?_ hdb)
 refine PySem.W.callWith_K (h₀:=X.base) I.ok.mod.kin hk (thn (ha pos pins s σ H _ I h) fun us s1 ⟨hn,vs,H1,I1,r,q⟩=>⟨I1.kIn,?_⟩) he hpl
 exact up1 hn (Zmx F hr hb hd hx I1 r q)
theorem pe_fnA {x:Str} {k:Nat} {ps:List Str} {sp:Sp} {p pos:Pos} {e:Expr} {es:List Expr} {t:TA} (C:Callee X.prog X.w X.K X.mg X.base x k ps sp) (hr:Room k X.A) (hg:Gl X x) (ha:PAS X (e::es) t) (hdb:(x == ("__debug__":Str))=false:=by decide)
  (he:starEach (e::es) X.env=(false,eval e X.env)::starEach es X.env:=by rfl) (hpl:(backTo pos (starEach es X.env)).any (·.1)=false:=by rfl) :
  PES X (.Call (.Name x p) (e::es) [] pos) (ZgY sp [] E0 t):=by
 obtain ⟨f,fd,F,hm,hk,hb⟩:=C.ex
 exact ZlM F hr hg hm hk hb .nil pass0 ha hdb he hpl
theorem ZnI {f:Expr} {as:List Expr} {ks:List Keyword} {p pos:Pos} {i:Nat} {x:Str} {pos':Pos} {te:TE} (hN:X.N.Nodup) (hi:X.N[i]?=some x) (hx:Loc X.env.scope x) (he:PES X (.Call f as ks p) te) (hf:X.fn x=true\/X.env.scope.names.lookup x=some .local:=by first|exact .inl rfl|exact .inr rfl|assumption) :
  PSS X (.Assign [.Name x pos'] (.Call f as ks p) pos) (tAsg te (Zd2 i)):=by
 intro pins s σ H D I h
 refine wpAny_Assign_Name (thn (he pins s σ H _ I h) fun v s1 ⟨hn,y,H1,I1,r1,q1⟩=>?_) rfl
 exact up1 hn (Zd7 I1 hN hi hx r1 (fun s2 I2=>⟨_,H1,I2,q1⟩) hf)
theorem ZjZ {st : Stmt} {rest : List Stmt} {t u : TS} (h1 : PSS X st t) (h2 : PSs X rest u) : PSsS X (st :: rest) (tSeq t u) := by
  intro pins s σ H D I h
  refine wpAny_execs_cons (thn (h1 pins s σ H { D with nx := u D } I h) fun f s1 ⟨hn, q⟩ => ?_)
  cases f with
  | next =>
    obtain ⟨σ', H', I', q⟩ := q
    exact up1 hn (h2 pins s1 σ' H' D I' q)
  | ret v => exact ⟨hn, q⟩
  | brk => exact ⟨hn, q⟩
  | cont => exact ⟨hn, q⟩
theorem PSsS.nox {st:List Stmt} {t:TS} (h:PSsS X.nox st t):PSsS X st t:=fun pins s σ H D I hw =>
 wpAny_mono (h pins s σ H D (I.wish _) hw) (fun f s' ⟨hn,q⟩=>⟨hn,q.unwish⟩) fun _ _ z=>False.elim z
end
noncomputable def CRS (CX:CXT) (outer:List Env) (P:Program) (w:World) (H:Hp) (s:Shared) (Q:VK) (E:XK) (r:Result) (s':Shared):Prop :=
 match r with
 | .ok (.ret u)=>1<=s'.toks/\CE outer P w H s Q u s'
 | .ok _=>False
 | .error e=>CX outer H s E e s'
structure FnOkS (P:Program) (w:World) (K:PySem.W.Frag) (mg:Str->Option Value) (base:Heap) (CX:CXT) (k:Nat) (f:Addr) (fd:FuncData) (ps:List Str) (sp:Sp):Prop where
 len:∀ vs H Q E,sp vs H Q E->vs.length=ps.length
 run:∀ (A:Around) (outer:List Env) (s:Shared) (H:Hp) (args:Args) (us:List Value) (vs:List V) (Q:VK) (E:XK),Room k A->Env0 P w K mg base A outer s H->BindsTo s fd args (ps.zip us)->Vals vs us->sp vs H Q E ->
  codeAny (model P w) A (.call (.ref f) args) (CRS CX outer P w H s Q E) s
theorem fn_ofS {CX : CXT} {P : Program} {w : World} {K : PySem.W.Frag} {mg : Str -> Option Value} {base : Heap} {k : Nat} {f : Addr} {name qual : Str} {params : Arguments} {body : List Stmt} {scope : Scope} {dV kV doc pm cdv ct oc : Value} {an od : Option Addr}
    {osl : Array (Option Value)} {N ps : List Str} {sp : Sp} (lk : K.lookup f = some ⟨oc, od, .func (PySem.W.fnOf name qual params body scope dV kV doc pm an cdv ct), osl⟩) (hcd : PySem.W.codeIn K cdv qual = true) (S : FnScope N ps scope)
    (len : ∀ vs H Q E, sp vs H Q E -> vs.length = ps.length)
    (hbody : ∀ (A : Around) (outer : List Env) (s : Shared) (H : Hp) (vs : List V) (Q : VK) (E : XK), Room k (A.deeper (envOfC qual scope s.heap.objs.size f cdv)) -> sp vs H Q E ->
      ∃ t, PSsS (cxOf CX P w K mg base N qual scope f cdv A outer s H E) body t /\ t { nx := fun _ H' => Q .non H', rt := Q } (ZdD N vs) H) :
    FnOkS P w K mg base CX (k + 1) f (PySem.W.fnOf name qual params body scope dV kV doc pm an cdv ct) ps sp := by
  refine ⟨len, fun A outer s H args us vs Q E hr e0 hb r hsp => ?_⟩
  have hl := len _ _ _ _ hsp
  have KX : K.In s.heap := e0.mod.kin.keeps fun b o e => (e0.bs b o e).1
  have lim : s.heap.NoLimit := e0.mod.nolimit.keeps fun b o e => (e0.bs b o e).1
  have hkind : ∀ y ∈ ps.zip us, scope.names.lookup y.1 = some .local \/ (scope.names.lookup y.1 = some .cell /\ ((cellsFrom (s.heap.objs.size + 1) scope.names []).lookup y.1).isSome = true) := fun ⟨n, v⟩ hy => by
    rcases S.par n (of_mem_zip hy).1 with q | q
    · exact .inl q
    · exact .inr ⟨q, PySem.W.cellsFrom_some _ _ _ (.inl q)⟩
  refine codeAny_call_function hr.depth (KX _ _ lk) rfl S.co S.gen rfl (PySem.W.codeRec_of KX hcd) (hb _ _ _ _ ?_)
  refine wpAny_newFunctionEnv_cells S.kind hkind fun env he s1 x => ?_
  subst he
  refine ⟨lim.keeps x.toInCall.keep, codeAny_func ?_⟩
  obtain ⟨t, ht, hq⟩ := hbody A outer s H vs Q E (hr.deeper _) hsp
  have I : Inv (cxOf CX P w K mg base N qual scope f cdv A outer s H E) [] (ZdD N vs) H s1 := Zhh S hr.hd e0 hl r x
  refine wpAny_mono ((ht [] s1 (ZdD N vs) H _ I hq)) (fun fl s' ⟨hn, hs⟩ => ?_) fun e s' hs => hs
  have fin : ∀ {σ' : St} {H' : Hp} {v : V} {u : Value}, Inv (cxOf CX P w K mg base N qual scope f cdv A outer s H E) [] σ' H' s' -> RelV v u -> Q v H' -> 1 <= s'.toks /\ CE outer P w H s Q u s' :=
    fun {σ' H' v u} J rv q => ⟨hn, v, H', J.os, J.bare, J.base, J.hok, rv, q⟩
  cases fl with
  | ret u =>
    obtain ⟨v, σ', H', J, rv, q⟩ := hs
    exact fin J rv q
  | next =>
    obtain ⟨σ', H', J, q⟩ := hs
    exact fin (v := V.non) (u := Value.none) J rfl q
  | brk =>
    obtain ⟨_, _, _, q⟩ := hs
    exact False.elim q
  | cont =>
    obtain ⟨_, _, _, q⟩ := hs
    exact False.elim q
theorem CRS.cr {CX : CXT} {outer : List Env} {P : Program} {w : World} {H : Hp} {s : Shared} {Q : VK} {E : XK} {r : Result} {s' : Shared} (h : CRS CX outer P w H s Q E r s') : CR CX outer P w H s Q E r s' := by
  cases r with
  | error e => exact h
  | ok fl =>
    cases fl with
    | ret u => exact h.2
    | next => exact h
    | brk => exact h
    | cont => exact h
theorem FnOkS.ok {P:Program} {w:World} {K:PySem.W.Frag} {mg:Str->Option Value} {base:Heap} {CX:CXT} {k:Nat} {f:Addr} {fd:FuncData} {ps:List Str} {sp:Sp} (F:FnOkS P w K mg base CX k f fd ps sp):FnOk P w K mg base CX k f fd ps sp :=
 ⟨F.len,fun A outer s H args us vs Q E hr e0 hb r h=>codeAny_mono (F.run A outer s H args us vs Q E hr e0 hb r h) fun _ _ z=>z.cr⟩
structure CalleeS (P:Program) (w:World) (K:PySem.W.Frag) (mg:Str->Option Value) (base:Heap) (x:Str) (k:Nat) (ps:List Str) (sp:Sp):Prop where
 ex:∃ f fd,FnOkS P w K mg base CX0 k f fd ps sp/\mg x=some (.ref f)/\PySem.W.keepIn K (.ref f)=true/\Binds K fd ps []
theorem CalleeS.callee {P:Program} {w:World} {K:PySem.W.Frag} {mg:Str->Option Value} {base:Heap} {x:Str} {k:Nat} {ps:List Str} {sp:Sp} (C:CalleeS P w K mg base x k ps sp):Callee P w K mg base x k ps sp:=by
 obtain ⟨f,fd,F,hm,hk,hb⟩:=C.ex
 exact ⟨f,fd,F.ok,hm,hk,hb⟩
section
variable {P:Program} {w:World} {K:PySem.W.Frag} {mg:Str->Option Value} {base:Heap} {x:Str} {st:Stmt} {ps N:List Str} {k:Nat}
noncomputable def GoalS (P:Program) (w:World) (K:PySem.W.Frag) (mg:Str->Option Value) (base:Heap) (N:List Str) (x:Str) (st:Stmt) (f:Addr) (cdv:Value) (A:Around) (outer:List Env) (s:Shared) (H:Hp) (vs:List V) (Q:VK) (E:XK):Prop :=
 ∃ t,PSsS (cxOf CX0 P w K mg base N x (Zam st) f cdv A outer s H E).nox (ZbU st) t/\t { nx:=fun _ H'=>Q .non H',rt:=Q } (ZdD N vs) H
theorem Zl9 {f:Addr} {cdv:Value} {A:Around} {outer:List Env} {s:Shared} {H:Hp} {vs:List V} {Q:VK} {E:XK} {t:TS} (σ:St) (hσ:ZdD N vs=σ) (h:PSsS (cxOf CX0 P w K mg base N x (Zam st) f cdv A outer s H E).nox (ZbU st) t)
  (q:t { nx:=fun _ H'=>Q .non H',rt:=Q } σ H):GoalS P w K mg base N x st f cdv A outer s H vs Q E:=⟨t,h,by rw [hσ];exact q⟩
theorem TopFn.ok1S {a1:Str} {b:V->Hp->VK->Prop} (T:TopFn K mg x st [a1]) (S:FnScope N [a1] (Zam st))
  (h:∀ (f:Addr) (cdv:Value) (A:Around) (outer:List Env) (s:Shared) (H:Hp) (v1:V) (Q:VK) (E:XK),Room k (A.deeper (envOfC x (Zam st) s.heap.objs.size f cdv))->b v1 H Q->GoalS P w K mg base N x st f cdv A outer s H [v1] Q E):CalleeS P w K mg base x (k+1) [a1] (sp1 b):=by
 obtain ⟨f,fd,F,hm,hb⟩:=T.ex
 refine ⟨f,fd,?_,hm,F.kp,hb⟩
 obtain ⟨oc,od,kV,doc,pm,an,cdv,ct,osl,rfl,lk,hcd⟩:=F.ex
 refine fn_ofS lk hcd S (fun vs H Q E ⟨_,e,_⟩=>by rw [e];rfl) fun A outer s H vs Q E hr hsp=>?_
 obtain ⟨v1,rfl,hb⟩:=hsp
 obtain ⟨t,h,q⟩:=h f cdv A outer s H v1 Q E hr hb
 exact ⟨t,h.nox,q⟩
end
section
variable {X:Cx}
theorem pe_fnS {x : Str} {k : Nat} {ps : List Str} {sp : Sp} {p pos : Pos} {e : Expr} {es : List Expr} {t : TA} (C : CalleeS X.prog X.w X.K X.mg X.base x k ps sp) (hr : Room k X.A) (hg : Gl X x) (ha : PA X (e :: es) t) (hdb : (x == ("__debug__" : Str)) = false := by decide)
    (he : starEach (e :: es) X.env = (false, eval e X.env) :: starEach es X.env := by rfl) (hpl : (backTo pos (starEach es X.env)).any (·.1) = false := by rfl) :
    PES X (.Call (.Name x p) (e :: es) [] pos) (ZgY sp [] E0 t) := by
  obtain ⟨f, fd, F, hm, hk, hb⟩ := C.ex
  intro pins s σ H Q I h
  refine wpAny_Call_Name_kw (ZdI I hg hm ?_ hdb)
  refine PySem.W.callWith_K (h₀ := X.base) I.ok.mod.kin hk (thn (ha pos pins s σ H _ I h) fun us s1 ⟨vs, H1, I1, r, q⟩ => ⟨I1.kIn, ?_⟩) he hpl
  have r2 : Vals (vs ++ []) (us ++ []) := by rw [append_nil, append_nil]; exact r
  have hl : (us ++ []).length = ps.length := by rw [<- r2.length]; exact F.len _ _ _ _ q
  refine wpAny_call (codeAny_mono (F.run X.A X.stack s1 H1 ⟨us, []⟩ (us ++ []) (vs ++ []) Q E0 hr I1.env0 (hb s1 us I1.kIn hl) r2 q) fun r s' hq => ?_)
  cases r with
  | error e => exact False.elim hq
  | ok fl =>
    cases fl with
    | ret u => exact ⟨hq.1, I1.after hq.2⟩
    | next => exact False.elim hq
    | brk => exact False.elim hq
    | cont => exact False.elim hq
noncomputable def tRepl (y z:Str) (to:TE):TE:=fun σ H Q=>to σ H fun x H1=>∃ t,x=.str t/\t.length<=1000000/\Q (.str (Txt.replace t y z)) H1
theorem ZlK {o:Expr} {to:TE} {y z:Str} {k1 k2:Nat} {p1 p2 apos cpos:Pos} (hyz:(y == z)=false) (hz:z.length<=14) (ho:PES X o to)
  (hbase:attributeBase o "replace" X.env (eval o X.env)=eval o X.env:=by rfl)
  (hfew:((backTo cpos (starEach [.Constant (.str y) k1 p1,.Constant (.str z) k2 p2] X.env)).all (fun x=>!x.1) && (backToKw cpos (keywordEach [] X.env)).all (fun x=>x.1.isSome)
   && decide (([.Constant (.str y) k1 p1,.Constant (.str z) k2 p2]:List Expr).length+([]:List Keyword).length+(if ([]:List Keyword).isEmpty then 0 else 1) < 30))=true:=by rfl)
  (hline:(apos.endLine == cpos.line)=true:=by rfl) :
  PE X (.Call (.Attribute o "replace" apos) [.Constant (.str y) k1 p1,.Constant (.str z) k2 p2] [] cpos) (tRepl y z to):=by
 intro pins s σ H Q I h
 refine wpAny_Call_method_late hbase hfew hline rfl (thn (ho pins s σ H _ I h) fun v s1 ⟨hn,x,H1,I1,r1,t,ex,ht,q1⟩=>?_)
 subst ex
 obtain ⟨h1,h2⟩:=Zjf (T:="str") I1 r1 rfl
 obtain ⟨tk,rfl⟩:=r1
 refine ⟨"str","str.replace",PySem.F.plainAttrs_str,PySem.F.slot_str_replace,PySem.F.type_str_replace,h1,h2,?_⟩
 ·refine Calls.callWith_builtin rfl (Calls.evalArgs_plain ?_)
  refine Calls.spliced_cons (Calls.Constant_str (k:=k1) (pos:=p1) ?_)
  refine Calls.spliced_cons (Calls.Constant_str (k:=k2) (pos:=p2) ?_)
  refine Calls.spliced_nil ?_
  refine SC.replaceW (Nat.pos_iff_ne_zero.mp hn) (Nat.succ_ne_zero _) (Nat.ne_of_lt (Nat.lt_succ_self _)) hyz (by lia) hz fun t' k=>?_
  exact ⟨.str _,H1,I1.tok _,⟨_,rfl⟩,q1⟩
end
end L2
end
section
namespace L2
open PySem PySem.Spec PyProof.Rows PySem.Builtin PySem.Builtin.Str PySem.NumText
section
variable {X:Cx}
noncomputable def ZjW:R2:=fun x y H Q=>∃ i j,x=.str i/\y=.str j/\Q (.bl (!(!(Builtin.Str.occurrences j i 0 j.length 1).isEmpty))) H
theorem Zj8:OpR X (compareOp .NotIn) ZjW:=by
 intro pins s σ H x y v u Q I rx ry h
 obtain ⟨i,j,rfl,rfl,q⟩:=h
 obtain ⟨t,rfl⟩:=rx
 obtain ⟨t',rfl⟩:=ry
 exact PySem.P.notIn_str ⟨.bl _,H,I,rfl,q⟩
theorem ZiS {c:Nat} {z:Str} {H:Hp} {Q:VK} (q:Q (.bl (!decide (c∈z.cps.toList))) H):ZjW (.str ⟨#[c]⟩) (.str z) H Q:=⟨_,_,rfl,rfl,by rw [StrLaws.found_one];exact q⟩
end
noncomputable def Zbd (z:Str):Prop:=z.cps.all (· < 128)=true
theorem asc_mem {z:Str}:Zbd z↔∀ c∈cs z,c < 128:=by
 unfold Zbd
 rw [<-Array.all_toList,all_eq_true]
 simp
theorem Zdv {x y:Str} (h1:Zbd x) (h2:Zbd y):Zbd (x++y):=asc_mem.mpr fun c hc=>by
 rw [Za8] at hc
 rcases mem_append.mp hc with z|z
 ·exact asc_mem.mp h1 c z
 ·exact asc_mem.mp h2 c z
theorem Zju {z:Str} {l u:Option Int}:∀ c∈cs (Txt.slice z l u),c∈cs z:=by
 intro c hc
 unfold Txt.slice at hc
 split at hc
 ·exact hc
 ·obtain ⟨i,_,e⟩:=mem_filterMap.mp (show c∈List.filterMap _ _ from hc)
  exact Array.mem_toList_iff.mpr (Array.mem_of_getElem? e)
theorem Zk6 {z:Str} {l u:Option Int} (h:Zbd z):Zbd (Txt.slice z l u):=asc_mem.mpr fun c hc=>asc_mem.mp h c (Zju c hc)
theorem Zig (a : Array Nat) : ∀ (k : Nat) (acc : Array Nat), ((List.replicate k a).foldl (· ++ ·) acc).toList = acc.toList ++ (List.replicate k a.toList).flatten
  | 0, acc => by simp
  | k + 1, acc => by
    rw [replicate_succ, foldl_cons, Zig a k (acc ++ a), replicate_succ, flatten_cons]
    simp
theorem ZeR (l : List Nat) : ∀ k, ((List.replicate k l).flatten).length = k * l.length
  | 0 => by simp
  | k + 1 => by
    rw [replicate_succ, flatten_cons, length_append, ZeR l k, Nat.succ_mul]
    lia
theorem ZjD (z:Str) (n:Int):(∀ c∈cs (repS z n),c∈cs z)/\(repS z n).length<=n.toNat * z.length:=by
 unfold repS
 split
 ·exact ⟨fun c hc=>(by cases hc),Nat.zero_le _⟩
 ·next h1 =>
  split
  ·refine ⟨fun c hc=>hc,?_⟩
   have:1<=n.toNat:=by lia
   calc z.length=1 * z.length:=(Nat.one_mul _).symm
    _<=n.toNat * z.length:=Nat.mul_le_mul_right _ this
  ·have e:cs (⟨(List.replicate n.toNat z.cps).foldl (·++·) #[]⟩:Str)=(List.replicate n.toNat (cs z)).flatten:=by
    show ((List.replicate n.toNat z.cps).foldl (·++·) #[]).toList=_
    rw [Zig]
    simp
   refine ⟨fun c hc=>?_,?_⟩
   ·rw [e] at hc
    obtain ⟨l,hl,hc⟩:=mem_flatten.mp hc
    rw [(mem_replicate.mp hl).2] at hc
    exact hc
   ·rw [<-Za0,e,ZeR,Za0]
    exact Nat.le_refl _
theorem Zh5 {z:Str} {n:Int} (h:Zbd z):Zbd (repS z n):=asc_mem.mpr fun c hc=>asc_mem.mp h c ((ZjD z n).1 c hc)
theorem Zdm {z:Str} {n:Int} {H:Hp} {Q:VK} (h1:-1000<=n) (h2:n<=1000) (h3:z.length<=1000) (q:(repS z n).length<=n.toNat * z.length->Q (.str (repS z n)) H):rRepS (.str z) (.int n) H Q:=by
 have h4:=(ZjD z n).2
 refine ⟨z,n,rfl,rfl,h1,h2,h3,?_,q h4⟩
 have h5:n.toNat * z.length<=1000 * 1000:=Nat.mul_le_mul (by lia) h3
 rw [PySem.sizeLine_eq]
 lia
theorem ZjF {z:Str} {lo hi:Option Int} {H:Hp} {Q:VK} (h:z.length<=1000000) (q:(Txt.slice z lo hi).length<=z.length->Q (.str (Txt.slice z lo hi)) H):rSlS (.str z) lo hi H Q :=
 ⟨z,rfl,by rw [PySem.sizeLine_eq];lia,q (Txt.slice_le z lo hi)⟩
theorem Zfc {s : Str} (hs : Zbd s) : ∀ {zs : List Str}, (∀ z ∈ zs, Zbd z) -> Zbd (Str.join s zs)
  | [], _ => asc_mem.mpr fun c hc => (by cases hc)
  | [x], h => h x mem_cons_self
  | x :: y :: r, h => by
    show Zbd (x ++ s ++ Str.join s (y :: r))
    exact Zdv (Zdv (h x mem_cons_self) hs) (Zfc hs fun z hz => h z (mem_cons_of_mem _ hz))
theorem ix_to {a:Int} {n:Nat} (h:0<=a):(strSliceIndices none (some a) 1 n).length<=a.toNat:=by
 unfold strSliceIndices sliceRange
 simp only [show (1:Int) > 0 by decide,if_true,length_map,length_range]
 split <;> (try split) <;> (try split) <;> (try simp only [Int.ediv_one]) <;> lia
theorem Zkz {a:Int} {n:Nat} (h:0<=a):(strSliceIndices (some a) none 1 n).length<=n - a.toNat:=by
 unfold strSliceIndices sliceRange
 simp only [show (1:Int) > 0 by decide,if_true,length_map,length_range]
 split <;> (try split) <;> (try split) <;> (try simp only [Int.ediv_one]) <;> lia
theorem Zif {z:Str} {l u:Option Int} {k:Nat} (h:(strSliceIndices l u 1 z.length).length<=k):(Txt.slice z l u).length<=k:=by
 unfold Txt.slice
 split
 ·next e =>
  have:(strSliceIndices l u 1 z.length).length=z.length:=by simpa using e
  lia
 ·show (List.filterMap _ (strSliceIndices l u 1 z.length)).toArray.size<=k
  rw [size_toArray]
  exact Nat.le_trans (length_filterMap_le _ _) h
theorem Zgn {z:Str} {a:Int} {H:Hp} {Q:VK} (h:z.length<=1000000) (ha:0<=a) (q:(Txt.slice z none (some a)).length<=a.toNat->Q (.str (Txt.slice z none (some a))) H):rSlS (.str z) none (some a) H Q :=
 ⟨z,rfl,by rw [PySem.sizeLine_eq];lia,q (Zif (ix_to ha))⟩
theorem Zee {z:Str} {a:Int} {H:Hp} {Q:VK} (h:z.length<=1000000) (ha:0<=a) (q:(Txt.slice z (some a) none).length<=z.length - a.toNat->Q (.str (Txt.slice z (some a) none)) H):rSlS (.str z) (some a) none H Q :=
 ⟨z,rfl,by rw [PySem.sizeLine_eq];lia,q (Zif (Zkz ha))⟩
theorem ZmQ (c:Nat):Zb5 c=decide (c∈(Str.ofString "0123456789").cps.toList):=by
 by_cases h:c < 58
 ·exact (by decide +kernel:∀ c < 58,Zb5 c=decide (c∈(Str.ofString "0123456789").cps.toList)) c h
 ·have h1:¬ (c∈(Str.ofString "0123456789").cps.toList):=fun z=>h ((by decide +kernel:∀ x∈(Str.ofString "0123456789").cps.toList,x < 58) c z)
  rw [decide_eq_false h1]
  unfold Zb5
  simp
  lia
end L2
end
section
namespace L2
open PySem PySem.Spec PyProof.Rows PySem.Builtin PySem.Builtin.Str PySem.NumText
theorem ZjQ {l : List Nat} {k : Nat} : (List.range k).filterMap (fun i => l[i]?) = l.take k := by
  induction k with
  | zero => simp
  | succ k ih =>
    rw [range_succ, filterMap_append, ih, take_add_one]
    cases h' : l[k]? <;> simp [h']
theorem sl_to {z:Str} {a:Int}:∃ k,cs (Txt.slice z none (some a))=(cs z).take k:=by
 unfold Txt.slice
 split
 ·exact ⟨z.length,by rw [<-Za0,take_length]⟩
 ·unfold strSliceIndices sliceRange
  simp only [show (1:Int) > 0 by decide,if_true]
  generalize (if (0:Int) < _ then _ else _:Int).toNat=k
  refine ⟨k,?_⟩
  rw [<-ZjQ,filterMap_map]
  show (List.filterMap _ (List.range k))=_
  refine congrArg (fun f=>List.filterMap f (List.range k)) (funext fun i=>?_)
  show z.cps[(0+1 * (i:Int)).toNat]?=z.cps.toList[i]?
  rw [show (0+1 * (i:Int)).toNat=i by lia,Array.getElem?_toList]
theorem Zjw {z:Str} {a:Int} (h:0<=a):∃ k,cs (Txt.slice z (some a) none)=(cs z).drop k:=by
 by_cases ha:a<=z.length
 ·refine ⟨a.toNat,?_⟩
  rw [slice_from_eq (b:=z.length) h ha rfl]
  show ((z.cps.toList.drop a.toNat).take ((z.length:Int) - a).toNat)=_
  rw [take_of_length_le]
  rw [length_drop]
  have:z.cps.toList.length=z.length:=Za0 z
  lia
 ·refine ⟨z.length,?_⟩
  have h1:=Zif (z:=z) (l:=some a) (u:=none) (k:=0) (by have:=Zkz (n:=z.length) h;lia)
  have e0:cs (Txt.slice z (some a) none)=[]:=eq_nil_of_length_eq_zero (by rw [Za0];lia)
  rw [e0,drop_eq_nil_of_le (by rw [Za0];exact Nat.le_refl _)]
noncomputable def LnW (M:Nat) (l:List Nat):Prop:=∀ u v w,l=u++v++w->10∉v->v.length<=M
theorem LnW.take {M:Nat} {l:List Nat} (h:LnW M l) (k:Nat):LnW M (l.take k):=fun u v w e n=>h u v (w++l.drop k) (by rw [<-append_assoc,<- e,take_append_drop]) n
theorem LnW.drop {M:Nat} {l:List Nat} (h:LnW M l) (k:Nat):LnW M (l.drop k):=fun u v w e n=>h (l.take k++u) v w (by rw [append_assoc,append_assoc,<- append_assoc u,<- e,take_append_drop]) n
theorem LnW.app {M N:Nat} {a b:List Nat} (h1:LnW M a) (h2:LnW N b):LnW (M+N) (a++b):=fun u v w e n=>by
 rw [append_assoc] at e
 rcases append_eq_append_iff.mp e with ⟨c,e1,e2⟩|⟨c,e1,e2⟩
 ·-- u=a++c
  have:=h2 c v w (by rw [e2,append_assoc]) n
  lia
 ·-- a=u++c,c++b=v++w
  rcases append_eq_append_iff.mp e2.symm with ⟨d,e3,e4⟩|⟨d,e3,e4⟩
  ·-- v=c++d,b=d++w
   have g1:=h1 u c [] (by rw [e1,append_nil]) fun z=>n (by rw [e3];exact mem_append_left _ z)
   have g2:=h2 [] d w (by rw [e4];rfl) fun z=>n (by rw [e3];exact mem_append_right _ z)
   rw [e3,length_append]
   lia
  ·have g1:=h1 u v d (by rw [e1,e3,append_assoc]) n
   lia
theorem LnW.len {l:List Nat}:LnW l.length l:=fun u v w e n=>by rw [e,length_append,length_append];lia
theorem LnW.mono {M N:Nat} {l:List Nat} (h:LnW M l) (k:M<=N):LnW N l:=fun u v w e n=>Nat.le_trans (h u v w e n) k
theorem LnW.sep {M : Nat} {a b : List Nat} (h1 : LnW M a) (h2 : LnW M b) : LnW M (a ++ 10 :: b) := fun u v w e n => by
  rw [append_assoc] at e
  rcases append_eq_append_iff.mp e with ⟨c, e1, e2⟩ | ⟨c, e1, e2⟩
  · cases c with
    | nil =>
      cases v with
      | nil => exact Nat.zero_le _
      | cons x v => simp at e2; exact absurd (by rw [<- e2.1]; exact mem_cons_self) n
    | cons x c =>
      simp at e2
      exact h2 c v w (by rw [e2.2, append_assoc]) n
  · rcases append_eq_append_iff.mp e2.symm with ⟨d, e3, e4⟩ | ⟨d, e3, e4⟩
    · cases d with
      | nil =>
        rw [append_nil] at e3
        exact h1 u v [] (by rw [e1, e3, append_nil]) n
      | cons x d =>
        simp at e4
        exact absurd (by rw [e3, <- e4.1]; exact mem_append_right _ mem_cons_self) n
    · exact h1 u v d (by rw [e1, e3, append_assoc]) n
theorem LnW.jn {M : Nat} : ∀ {ps : List (List Nat)}, (∀ p ∈ ps, LnW M p) -> LnW M (jn 10 ps)
  | [], _ => fun u v w e n => by
    have := congrArg List.length e
    simp [L2.jn] at this
    lia
  | [p], h => h p mem_cons_self
  | p :: q :: r, h => by
    show LnW M (p ++ 10 :: L2.jn 10 (q :: r))
    exact LnW.sep (h p mem_cons_self) (LnW.jn fun x hx => h x (mem_cons_of_mem _ hx))
theorem Zl4 {c : Nat} : ∀ {ps : List (List Nat)} {p : List Nat}, p ∈ ps -> ∃ u w, jn c ps = u ++ p ++ w
  | [x], p, h => by rw [mem_singleton.mp h]; exact ⟨[], [], by simp [jn]⟩
  | x :: y :: r, p, h => by
    show ∃ u w, x ++ c :: jn c (y :: r) = u ++ p ++ w
    rcases mem_cons.mp h with rfl | h
    · exact ⟨[], c :: jn c (y :: r), by simp⟩
    · obtain ⟨u, w, e⟩ := Zl4 h
      exact ⟨x ++ c :: u, w, by rw [e]; simp⟩
theorem ZkX : ∀ {ps : List (List Nat)}, ps ≠ [] -> (∀ p ∈ ps, 10 ∉ p) -> (jn 10 ps).count 10 + 1 = ps.length
  | [], h, _ => absurd rfl h
  | [p], _, h => by
    show p.count 10 + 1 = 1
    rw [count_eq_zero.mpr (h p mem_cons_self)]
  | p :: q :: r, _, h => by
    have := ZkX (ps := q :: r) (cons_ne_nil _ _) fun x hx => h x (mem_cons_of_mem _ hx)
    show (p ++ 10 :: jn 10 (q :: r)).count 10 + 1 = _
    rw [count_append, count_eq_zero.mpr (h p mem_cons_self), count_cons_self]
    simp only [length_cons] at this ⊢
    lia
structure TB (L F M:Nat) (t:Str):Prop where
 asc:Zbd t
 len:t.length<=L
 fd:(cs t).count 10<=F
 ln:LnW M (cs t)
theorem TB.lines {L F M:Nat} {t:Str} (h:TB L F M t):(Txt.split t ⟨#[10]⟩).length<=F+1/\∀ p∈Txt.split t ⟨#[10]⟩,Zbd p/\p.length<=M/\10∉cs p:=by
 have e:=congrArg cs (StrLaws.join_split t ⟨#[10]⟩)
 rw [Zbg] at e
 have fr:=StrLaws.split_free t 10
 constructor
 ·have:=ZkX (ps:=(Txt.split t ⟨#[10]⟩).map cs) (fun z=>ZbV _ _ (map_eq_nil_iff.mp z)) (fun p hp=>by
   obtain ⟨q,hq,rfl⟩:=mem_map.mp hp
   exact fr q hq)
  rw [e,length_map] at this
  have:=h.fd
  lia
 ·intro p hp
  obtain ⟨u,w,e2⟩:=Zl4 (c:=10) (mem_map.mpr ⟨p,hp,rfl⟩:cs p∈(Txt.split t ⟨#[10]⟩).map cs)
  rw [e] at e2
  refine ⟨asc_mem.mpr fun x hx=>asc_mem.mp h.asc x (by rw [e2];exact mem_append_left _ (mem_append_right _ hx)),?_,fr p hp⟩
  have:=h.ln u (cs p) w e2 (fr p hp)
  rw [Za0] at this
  exact this
theorem TB.join {N F M : Nat} {ls : List Str} (hne : ls ≠ []) (hl : ls.length <= F + 1) (h : ∀ p ∈ ls, Zbd p /\ p.length <= M /\ 10 ∉ cs p) (hs : (ls.map (·.length)).sum + ls.length <= N + 1) : TB N F M (Str.join ⟨#[10]⟩ ls) := by
  have hn : ls.map cs ≠ [] := fun z => hne (map_eq_nil_iff.mp z)
  refine ⟨Zfc (asc_mem.mpr fun c hc => by rw [mem_singleton.mp hc]; decide) fun p hp => (h p hp).1, ?_, ?_, ?_⟩
  · rw [<- Za0, Zbg]
    have : ∀ {ps : List (List Nat)}, ps ≠ [] -> (jn 10 ps).length + 1 = (ps.map (·.length)).sum + ps.length := by
      intro ps
      induction ps with
      | nil => intro h; exact absurd rfl h
      | cons x r ih =>
        intro _
        cases r with
        | nil => show x.length + 1 = (x.length + 0) + 1; lia
        | cons y r =>
          have := ih (cons_ne_nil _ _)
          show (x ++ 10 :: jn 10 (y :: r)).length + 1 = (x.length + ((y :: r).map (·.length)).sum) + ((y :: r).length + 1)
          rw [length_append, length_cons]
          lia
    have h2 := this hn
    rw [length_map, map_map] at h2
    have h3 : (ls.map ((fun x : List Nat => x.length) ∘ cs)).sum = (ls.map (·.length)).sum := by congr 1
    lia
  · rw [Zbg]
    have := ZkX hn (fun p hp => by
      obtain ⟨q, hq, rfl⟩ := mem_map.mp hp
      exact (h q hq).2.2)
    rw [length_map] at this
    lia
  · rw [Zbg]
    refine LnW.jn fun p hp => ?_
    obtain ⟨q, hq, rfl⟩ := mem_map.mp hp
    have := (h q hq).2.1
    rw [<- Za0] at this
    exact LnW.len.mono this
theorem TB.put {L F M:Nat} {t t' r:Str} {i j:Nat} (h:TB L F M t) (hr:r.length<=12) (ha:Zbd r) (e:cs t'=(cs t).take i++cs r++(cs t).drop j) (hl:t'.length<=L+12):TB (L+12) (F+F+12) (2 * M+12) t':=by
 have hrc:(cs r).length<=12:=by rw [Za0];exact hr
 refine ⟨asc_mem.mpr fun c hc=>?_,hl,?_,?_⟩
 ·rw [e] at hc
  rcases mem_append.mp hc with hc|hc
  ·rcases mem_append.mp hc with hc|hc
   ·exact asc_mem.mp h.asc c (mem_of_mem_take hc)
   ·exact asc_mem.mp ha c hc
  ·exact asc_mem.mp h.asc c (mem_of_mem_drop hc)
 ·rw [e,count_append,count_append]
  have h1:=(take_sublist i (cs t)).count_le 10
  have h2:=(drop_sublist j (cs t)).count_le 10
  have h3:=count_le_length (a:=10) (l:=cs r)
  have:=h.fd
  lia
 ·rw [e]
  refine (((h.ln.take i).app (LnW.len (l:=cs r))).app (h.ln.drop j)).mono ?_
  lia
inductive PutIn (t t':Str):Prop
 | mk (i j r) (_:cs t'=(cs t).take i++cs r++(cs t).drop j) (_:r.length<=12) (_:Zbd r):PutIn t t'
theorem put3 {t r:Str} {a b:Int} (hb:0<=b) (hr:r.length<=12) (ha:Zbd r):PutIn t (Txt.slice t none (some a)++r++Txt.slice t (some b) none):=by
 obtain ⟨i,ei⟩:=sl_to (z:=t) (a:=a)
 obtain ⟨j,ej⟩:=Zjw (z:=t) hb
 exact ⟨i,j,r,by rw [Za8,Za8,ei,ej],hr,ha⟩
theorem put2 {t:Str} {a b:Int} (hb:0<=b):PutIn t (Txt.slice t none (some a)++Txt.slice t (some b) none):=by
 obtain ⟨i,ei⟩:=sl_to (z:=t) (a:=a)
 obtain ⟨j,ej⟩:=Zjw (z:=t) hb
 exact ⟨i,j,Str.empty,by rw [Za8,ei,ej,show cs Str.empty=[] from rfl,append_nil],Nat.zero_le _,asc_mem.mpr fun c hc=>by cases hc⟩
theorem Zky {c : Nat} : ∀ {ps : List (List Nat)}, ps.flatten.length <= (jn c ps).length /\ ∀ x ∈ ps.flatten, x ∈ jn c ps
  | [] => ⟨Nat.le_refl _, fun x hx => hx⟩
  | [p] => by
    show (p ++ []).length <= p.length /\ ∀ x ∈ p ++ [], x ∈ p
    rw [append_nil]
    exact ⟨Nat.le_refl _, fun x hx => hx⟩
  | p :: q :: r => by
    obtain ⟨h1, h2⟩ := Zky (c := c) (ps := q :: r)
    show (p ++ (q :: r).flatten).length <= (p ++ c :: jn c (q :: r)).length /\ ∀ x ∈ p ++ (q :: r).flatten, x ∈ p ++ c :: jn c (q :: r)
    rw [length_append, length_append, length_cons]
    refine ⟨by lia, fun x hx => ?_⟩
    rcases mem_append.mp hx with hx | hx
    · exact mem_append_left _ hx
    · exact mem_append_right _ (mem_cons_of_mem _ (h2 x hx))
theorem ZgI : ∀ (zs : List Str), cs (Str.join Str.empty zs) = (zs.map cs).flatten
  | [] => rfl
  | [x] => by simp [Str.join]
  | x :: y :: r => by
    show cs (x ++ Str.empty ++ Str.join Str.empty (y :: r)) = _
    rw [Za8, Za8, ZgI (y :: r), show cs Str.empty = [] from rfl, append_nil]
    rfl
theorem ZjB (x:Str):10∉cs (Txt.replace x ⟨#[10]⟩ Str.empty)/\(Txt.replace x ⟨#[10]⟩ Str.empty).length<=x.length/\∀ c∈cs (Txt.replace x ⟨#[10]⟩ Str.empty),c∈cs x:=by
 obtain ⟨f,hG,hn⟩:=StrLaws.occ_tight x ⟨#[10]⟩ (Nat.le_refl 1)
 unfold Txt.replace
 split
 ·next h =>
  have e0:occurrences x ⟨#[10]⟩ 0 x.length (x.length+1)=[]:=by
   rcases Bool.or_eq_true _ _▸h with h|h
   ·exact isEmpty_iff.mp h
   ·simp [Str.length] at h
  rw [e0] at hG
  have ef:f=0:=hG
  subst ef
  refine ⟨?_,Nat.le_refl _,fun c hc=>hc⟩
  rw [<-StrLaws.sub_whole x]
  exact StrLaws.part_free x 10 0 x.length (Nat.le_refl _) fun k h1 _=>hn k h1
 ·have ej:Str.join ⟨#[10]⟩ (partsBetween x (occurrences x ⟨#[10]⟩ 0 x.length (x.length+1)) (⟨#[10]⟩:Str).length)=x:=by
   obtain ⟨f,h⟩:=StrLaws.occ_chain x ⟨#[10]⟩ (x.length+1)
   rw [StrLaws.partsBetween_eq,StrLaws.join_partsFrom x ⟨#[10]⟩ _ 0 f h,StrLaws.sub_whole]
  have hf:∀ p∈partsBetween x (occurrences x ⟨#[10]⟩ 0 x.length (x.length+1)) (⟨#[10]⟩:Str).length,10∉cs p:=by
   rw [StrLaws.partsBetween_eq]
   exact StrLaws.parts_free x 10 _ 0 f hG hn
  rw [StrLaws.glued_eq_join]
  generalize partsBetween x (occurrences x ⟨#[10]⟩ 0 x.length (x.length+1)) (⟨#[10]⟩:Str).length=ps at ej hf
  have e1:=congrArg cs ej
  rw [Zbg] at e1
  obtain ⟨g1,g2⟩:=Zky (c:=10) (ps:=ps.map cs)
  rw [e1] at g1 g2
  rw [ZgI]
  refine ⟨fun z=>?_,?_,g2⟩
  ·obtain ⟨l,hl,z⟩:=mem_flatten.mp z
   obtain ⟨p,hp,rfl⟩:=mem_map.mp hl
   exact hf p hp z
  ·rw [<-Za0,ZgI,<- Za0 x]
   exact g1
theorem Zjd:∀ c:Fin 128,(Unicode.upperOf c.val).length=1/\(Unicode.upperOf c.val).headD 0 < 128/\((Unicode.upperOf c.val).headD 0=10->c.val=10):=by decide +kernel
theorem Zje : ∀ {l : List Nat}, (∀ c ∈ l, c < 128) -> (l.map Unicode.upperOf).flatten = l.map fun c => (Unicode.upperOf c).headD 0
  | [], _ => rfl
  | c :: l, h => by
    have h1 := (Zjd ⟨c, h c mem_cons_self⟩).1
    rw [map_cons, flatten_cons, Zje fun x hx => h x (mem_cons_of_mem _ hx), map_cons]
    generalize Unicode.upperOf c = u at h1
    rcases u with _ | ⟨d, _ | ⟨e, r⟩⟩
    · cases h1
    · rfl
    · simp at h1
theorem Zlg {x:Str} (h:Zbd x):cs (Txt.upper x)=(cs x).map fun c=>(Unicode.upperOf c).headD 0:=by
 rw [<-Zje (asc_mem.mp h)]
 unfold Txt.upper placed
 show (Array.flatten (x.cps.mapIdx fun i c=>(Unicode.upperOf c).toArray)).toList=_
 rw [Array.toList_flatten,Array.toList_mapIdx]
 congr 1
 refine ext_getElem? fun i=>?_
 rw [getElem?_map,getElem?_mapIdx,getElem?_map]
 cases (cs x)[i]? <;> rfl
theorem Zgi {x:Str} (h:Zbd x):Zbd (Txt.upper x)/\(Txt.upper x).length=x.length/\(10∉cs x->10∉cs (Txt.upper x)):=by
 have e:=Zlg h
 refine ⟨asc_mem.mpr fun c hc=>?_,?_,fun n z=>?_⟩
 ·rw [e] at hc
  obtain ⟨d,hd,rfl⟩:=mem_map.mp hc
  exact (Zjd ⟨d,asc_mem.mp h d hd⟩).2.1
 ·rw [<-Za0,e,length_map,Za0]
 ·rw [e] at z
  obtain ⟨d,hd,hz⟩:=mem_map.mp z
  have:=(Zjd ⟨d,asc_mem.mp h d hd⟩).2.2 hz
  have:d=10:=this
  rw [<-this] at n
  exact n hd
section
variable {X:Cx}
noncomputable def ZmF:V->List V->Hp->VK->Prop:=fun x xs H Q=>∃ z,x=.str z/\xs=[]/\Zbd z/\z.length<=1000000/\Q (.str (Txt.upper z)) H
theorem ZlW:MtR X "str.upper" ZmF:=by
 intro pins s σ H x xs v us Q I rx r h
 obtain ⟨z,rfl,rfl,az,hz,q⟩:=h
 obtain ⟨t,rfl⟩:=rx
 cases r
 refine SC.upper ?_ ⟨.str _,H,I.tok _,⟨_,rfl⟩,q⟩
 unfold tooLong
 exact decide_eq_false (by rw [(Zgi az).2.1,PySem.sizeLine_eq];lia)
theorem Zii {z:Str} {H:Hp} {Q:VK} (h:Zbd z) (hz:z.length<=1000000) (q:Q (.str (Txt.upper z)) H):ZmF (.str z) [] H Q:=⟨z,rfl,rfl,h,hz,q⟩
end
theorem Ze9 {c : Nat} : ∀ {ps : List (List Nat)}, ps ≠ [] -> (jn c ps).length + 1 = (ps.map (·.length)).sum + ps.length
  | [], h => absurd rfl h
  | [x], _ => by show x.length + 1 = (x.length + 0) + 1; lia
  | x :: y :: r, _ => by
    have := Ze9 (c := c) (ps := y :: r) (cons_ne_nil _ _)
    show (x ++ c :: jn c (y :: r)).length + 1 = (x.length + ((y :: r).map (·.length)).sum) + ((y :: r).length + 1)
    rw [length_append, length_cons]
    lia
end L2
end
section
namespace L2
open PySem PySem.Spec PyProof.Rows PySem.Builtin PySem.Builtin.Str PySem.NumText
noncomputable def Lin (M:Nat) (p:Str):Prop:=Zbd p/\p.length<=M/\10∉cs p
structure LSt (S C M:Nat) (ls:List Str):Prop where
 cnt:ls.length<=C
 all:∀ p∈ls,Lin M p
 sz:(ls.map (·.length)).sum+ls.length<=S
theorem Lin.up {M N:Nat} {p:Str} (h:Lin M p) (k:M<=N):Lin N p:=⟨h.1,Nat.le_trans h.2.1 k,h.2.2⟩
theorem LSt.up {S C M S' C' M':Nat} {ls:List Str} (h:LSt S C M ls) (h1:S<=S') (h2:C<=C') (h3:M<=M'):LSt S' C' M' ls:=⟨Nat.le_trans h.cnt h2,fun p hp=>(h.all p hp).up h3,Nat.le_trans h.sz h1⟩
theorem ZdZ {t:Str} {c:Nat}:((Txt.split t ⟨#[c]⟩).map (·.length)).sum+(Txt.split t ⟨#[c]⟩).length=t.length+1:=by
 have e:=congrArg cs (StrLaws.join_split t ⟨#[c]⟩)
 rw [Zbg] at e
 have h:=Ze9 (c:=c) (ps:=(Txt.split t ⟨#[c]⟩).map cs) (fun z=>ZbV _ _ (map_eq_nil_iff.mp z))
 rw [e,Za0,length_map,map_map] at h
 have h3:((Txt.split t ⟨#[c]⟩).map ((fun x:List Nat=>x.length) ∘ cs)).sum=((Txt.split t ⟨#[c]⟩).map (·.length)).sum:=by congr 1
 lia
theorem TB.lst {L F M:Nat} {t:Str} (h:TB L F M t):LSt (L+1) (F+1) M (Txt.split t ⟨#[10]⟩):=⟨h.lines.1,h.lines.2,by have:=ZdZ (t:=t) (c:=10);have:=h.len;lia⟩
theorem LSt.tb {N F M:Nat} {ls:List Str} (h:LSt (N+1) (F+1) M ls):TB N F M (Str.join ⟨#[10]⟩ ls):=by
 by_cases hn:ls=[]
 ·rw [hn]
  have e:cs (Str.join ⟨#[10]⟩ [])=[]:=rfl
  refine ⟨asc_mem.mpr fun c hc=>?_,Nat.zero_le _,?_,fun u v w e2 n=>?_⟩
  ·rw [e] at hc;cases hc
  ·rw [e];exact Nat.zero_le _
  ·have:=congrArg List.length e2
   rw [e] at this
   simp at this
   lia
 ·exact TB.join hn h.cnt h.all h.sz
theorem ZgZ : ∀ (k : Nat) (l : List Nat), (l.drop k).sum <= l.sum
  | 0, l => Nat.le_refl _
  | k + 1, [] => Nat.le_refl _
  | k + 1, x :: l => by
    have := ZgZ k l
    rw [drop_succ_cons, sum_cons]
    lia
theorem Zm6 {i j:Nat} (h:i<=j) (l:List Nat):(l.take i).sum+(l.drop j).sum<=l.sum:=by
 have e:(l.take i).sum+(l.drop i).sum=l.sum:=by rw [<-sum_append,take_append_drop]
 have:=ZgZ (j - i) (l.drop i)
 rw [drop_drop,show i+(j - i)=j by lia] at this
 lia
theorem LSt.ins {S C M s c:Nat} {ls xs:List Str} {i j:Nat} (h:LSt S C M ls) (hij:i<=j) (hx:LSt s c M xs):LSt (S+s) (C+c) M (ls.take i++xs++ls.drop j):=by
 have h1:(ls.take i).length+(ls.drop j).length<=ls.length:=by
  rw [length_take,length_drop]
  lia
 refine ⟨?_,fun p hp=>?_,?_⟩
 ·have:=h.cnt
  have:=hx.cnt
  simp only [length_append]
  lia
 ·rcases mem_append.mp hp with hp|hp
  ·rcases mem_append.mp hp with hp|hp
   ·exact h.all p (mem_of_mem_take hp)
   ·exact hx.all p hp
  ·exact h.all p (mem_of_mem_drop hp)
 ·have h2:=Zm6 hij (ls.map (·.length))
  have:=h.sz
  have:=hx.sz
  rw [map_append,map_append,sum_append,sum_append,map_take,map_drop]
  simp only [length_append]
  lia
theorem LSt.nil {M:Nat}:LSt 0 0 M []:=⟨Nat.le_refl _,(fun p hp=>by cases hp),Nat.le_refl _⟩
theorem LSt.one {M m:Nat} {x:Str} (h:Lin M x) (hm:x.length<=m):LSt (m+1) 1 M [x]:=⟨Nat.le_refl _,(fun p hp=>by rw [mem_singleton.mp hp];exact h),by simpa using hm⟩
theorem LSt.cut {S C M:Nat} {ls:List Str} {i j:Nat} (h:LSt S C M ls) (hij:i<=j):LSt S C M (ls.take i++ls.drop j):=by
 have:=h.ins hij (LSt.nil (M:=M))
 rw [append_nil] at this
 exact this
theorem LSt.set {S C M m:Nat} {ls:List Str} {x:Str} {i:Nat} (h:LSt S C M ls) (hx:Lin M x) (hm:x.length<=m):LSt (S+(m+1)) (C+1) M (ls.set i x):=by
 by_cases hi:i < ls.length
 ·rw [set_eq_take_append_cons_drop,if_pos hi]
  have:=h.ins (Nat.le_succ i) (LSt.one hx hm)
  rw [append_assoc] at this
  exact this
 ·rw [set_eq_of_length_le (by lia)]
  exact h.up (by lia) (by lia) (Nat.le_refl _)
theorem Lin.words {M:Nat} {x:Str} (h:Lin M x):LSt (M+1) (M+1) M (Txt.split x ⟨#[32]⟩):=by
 have hs:=ZdZ (t:=x) (c:=32)
 have hl:=h.2.1
 refine ⟨by lia,fun p hp=>?_,by lia⟩
 have e:=congrArg cs (StrLaws.join_split x ⟨#[32]⟩)
 rw [Zbg] at e
 obtain ⟨u,w,e2⟩:=Zl4 (c:=32) (mem_map.mpr ⟨p,hp,rfl⟩:cs p∈(Txt.split x ⟨#[32]⟩).map cs)
 rw [e] at e2
 have hm:∀ c∈cs p,c∈cs x:=fun c hc=>by rw [e2];exact mem_append_left _ (mem_append_right _ hc)
 refine ⟨asc_mem.mpr fun c hc=>asc_mem.mp h.1 c (hm c hc),?_,fun z=>h.2.2 (hm _ z)⟩
 have:=congrArg List.length e2
 rw [length_append,length_append,Za0,Za0] at this
 lia
theorem LSt.line {N C M : Nat} {ls : List Str} (h : LSt (N + 1) C M ls) : Lin N (Str.join ⟨#[32]⟩ ls) := by
  by_cases hn : ls = []
  · rw [hn]
    have e : cs (Str.join ⟨#[32]⟩ []) = [] := rfl
    exact ⟨asc_mem.mpr fun c hc => (by rw [e] at hc; cases hc), Nat.zero_le _, (by rw [e]; exact not_mem_nil)⟩
  · refine ⟨Zfc (asc_mem.mpr fun c hc => by rw [mem_singleton.mp hc]; decide) fun p hp => (h.all p hp).1, ?_, fun z => ?_⟩
    · have := Ze9 (c := 32) (ps := ls.map cs) (fun z => hn (map_eq_nil_iff.mp z))
      rw [<- Za0, Zbg]
      rw [length_map, map_map] at this
      have h3 : (ls.map ((fun x : List Nat => x.length) ∘ cs)).sum = (ls.map (·.length)).sum := by congr 1
      have := h.sz
      lia
    · rw [Zbg] at z
      have : ∀ {ps : List (List Nat)}, (∀ p ∈ ps, 10 ∉ p) -> 10 ∉ jn 32 ps := by
        intro ps
        induction ps with
        | nil => exact fun _ z => by cases z
        | cons x r ih =>
          intro hh
          cases r with
          | nil => exact hh x mem_cons_self
          | cons y r =>
            have h2 := ih fun p hp => hh p (mem_cons_of_mem _ hp)
            show 10 ∉ x ++ 32 :: jn 32 (y :: r)
            intro z
            rcases mem_append.mp z with z | z
            · exact hh x mem_cons_self z
            · rcases mem_cons.mp z with z | z
              · cases z
              · exact h2 z
      refine this (fun p hp => ?_) z
      obtain ⟨q, hq, rfl⟩ := mem_map.mp hp
      exact (h.all q hq).2.2
theorem Zok {ls:List Str} {k:Nat}:cutV (ls.map V.str) none (some (k:Int))=(ls.take k).map V.str:=by
 rw [map_take]
 generalize ls.map V.str=xs
 rcases Nat.le_total k xs.length with h|h
 ·exact ZmV h
 ·unfold cutV
  have h1:HT.sIx xs.length xs.length (some (k:Int))=xs.length:=by
   rw [Zdk]
   lia
  have h2:HT.sIx xs.length 0 none=0:=rfl
  rw [h1,h2,take_of_length_le h]
  simp
theorem ZkV {ls:List Str} {k:Nat}:cutV (ls.map V.str) (some (k:Int)) none=(ls.drop k).map V.str:=by
 rw [map_drop]
 generalize ls.map V.str=xs
 rcases Nat.le_total k xs.length with h|h
 ·exact ZgH h
 ·unfold cutV
  have h1:HT.sIx xs.length 0 (some (k:Int))=xs.length:=by
   rw [Zdk]
   lia
  rw [h1,drop_eq_nil_of_le h,drop_length]
  simp
theorem Zgp {H:Hp} {l b:Addr} {xs zs:List Str} {Q:VK} (h1:H l=some (.lst (xs.map V.str))) (h2:H b=some (.lst (zs.map V.str))) (hl:xs.length+zs.length<=1000000) (q:∀ p H',H p=none->Same H H'->H' p=some (.lst ((xs++zs).map V.str))->Q (.ref p) H'):rCat (.ref l) (.ref b) H Q :=
 ZmE h1 h2 (by rw [length_map,length_map];exact Nat.le_trans hl (by rw [PySem.sizeLine_eq];decide)) fun p hp=>q p _ hp (Same.new hp) (by rw [Zad,map_append])
theorem Zmz {K:PySem.W.Frag} {H:Hp} {a:Addr} {ls:List Str} {x:Int} {i:Nat} {Q:VK} (h:H a=some (.lst (ls.map V.str))) (e:x=i) (q:∀ p H',H p=none->Same H H'->H' p=some (.lst ((ls.take i).map V.str))->Q (.ref p) H'):rSlL K (.ref a) none (some x) H Q :=
 Zcx (SqL.of h) fun p hp=>q p _ hp (Same.new hp) (by rw [Zad,e,Zok])
theorem Zim {K:PySem.W.Frag} {H:Hp} {a:Addr} {ls:List Str} {x:Int} {i:Nat} {Q:VK} (h:H a=some (.lst (ls.map V.str))) (e:x=i) (q:∀ p H',H p=none->Same H H'->H' p=some (.lst ((ls.drop i).map V.str))->Q (.ref p) H'):rSlL K (.ref a) (some x) none H Q :=
 Zcx (SqL.of h) fun p hp=>q p _ hp (Same.new hp) (by rw [Zad,e,ZkV])
theorem Zc1 {z:Str} {c:Nat} {y:Str} {H:Hp} {Q:VK} (hy:y=⟨#[c]⟩) (hz:z.length<=1000000) (q:∀ p H',H p=none->Same H H'->H' p=some (.lst ((Txt.split z ⟨#[c]⟩).map V.str))->Q (.ref p) H'):ZjU (.str z) [.str y] H Q:=by
 subst hy
 exact ZdR rfl (by rw [PySem.sizeLine_eq];lia) fun p hp=>q p _ hp (Same.new hp) Zad
theorem Zkh (x:Int) {n:Nat} (h:0 < n):∃ a:Nat,x % (n:Int)=a/\a < n:=⟨(x % (n:Int)).toNat,(Int.toNat_of_nonneg (Int.emod_nonneg _ (by lia))).symm,by
  have h1:=Int.emod_nonneg x (b:=(n:Int)) (by lia)
  have h2:=Int.emod_lt_of_pos x (b:=(n:Int)) (by lia)
  lia⟩
theorem Same.wrF {H H1:Hp} {a:Addr} {o:HO} (s:Same H H1) (h:H a=none):Same H (upd H1 a o):=fun b u e=>by
 rw [Zat (fun z=>by rw [z,h] at e;cases e)]
 exact s _ _ e
theorem Zbz {c:TT} {t u t2:TS} {D':Ends} {σ:St} {H:Hp} (I:St->Hp->Prop) (h:∀ N:St->Hp->Prop,(∀ σ' H',I σ' H'->N σ' H')->tIfS c t u { D' with nx:=N } σ H) (hI:∀ σ' H',I σ' H'->t2 D' σ' H'):tSeq (tIfS c t u) t2 D' σ H:=h _ hI
section
variable {K:PySem.W.Frag} {ta ta' te tf tm:TE} {σ:St} {H:Hp} {Q:VK} {p:Addr} {ls xs:List Str} {i j:Nat} {x y:Int}
theorem ZeF (hp:H p=some (.lst (ls.map V.str))) (hs:ls.length+xs.length+ls.length<=1000000) (ei:x=i) (ej:y=j)
  (ha:∀ {H':Hp} {R:VK},R (.ref p) H'->ta σ H' R) (he:∀ {H':Hp} {R:VK},R (.int x) H'->te σ H' R) (hf:∀ {H':Hp} {R:VK},R (.int y) H'->tf σ H' R)
  (hm:∀ {H':Hp} {R:VK},Same H H'->(∀ m H2,Same H' H2->H2 m=some (.lst (xs.map V.str))->R (.ref m) H2)->tm σ H' R)
  (q:∀ p' H',Same H H'->H' p'=some (.lst ((ls.take i++xs++ls.drop j).map V.str))->Q (.ref p') H') :
  tOp rCat (tOp rCat (tSl (rSlL K) ta Zez (ZiP te)) tm) (tSl (rSlL K) ta (ZiP tf) Zez) σ H Q:=by
 refine ha (he ⟨x,rfl,Zmz hp ei fun p1 H1 _ s1 e1=>hm s1 fun m H2 s2 e2=>Zgp (s2 _ _ e1) e2 (by rw [length_take];lia) fun p3 H3 _ s3 e3=>ha (hf ⟨y,rfl,?_⟩)⟩)
 show rSlL K (.ref p) (some y) none H3 (fun y H2=>rCat (.ref p3) y H2 Q)
 exact Zim (((s1.trans s2).trans s3) _ _ hp) ej fun p4 H4 _ s4 e4=>Zgp (s4 _ _ e3) e4 (by rw [length_append,length_take,length_drop];lia) fun p5 H5 _ s5 e5=>q p5 H5 ((((s1.trans s2).trans s3).trans s4).trans s5) e5
theorem ZhH (hp:H p=some (.lst (ls.map V.str))) (hs:ls.length+ls.length<=1000000) (ei:x=i) (ej:y=j)
  (ha:∀ {H':Hp} {R:VK},R (.ref p) H'->ta σ H' R) (he:∀ {H':Hp} {R:VK},R (.int x) H'->te σ H' R) (hf:∀ {H':Hp} {R:VK},R (.int y) H'->tf σ H' R)
  (q:∀ p' H',Same H H'->H' p'=some (.lst ((ls.take i++ls.drop j).map V.str))->Q (.ref p') H') :
  tOp rCat (tSl (rSlL K) ta Zez (ZiP te)) (tSl (rSlL K) ta (ZiP tf) Zez) σ H Q:=by
 refine ha (he ⟨x,rfl,Zmz hp ei fun p1 H1 _ s1 e1=>ha (hf ⟨y,rfl,?_⟩)⟩)
 show rSlL K (.ref p) (some y) none H1 (fun y H2=>rCat (.ref p1) y H2 Q)
 exact Zim (s1 _ _ hp) ej fun p4 H4 _ s4 e4=>Zgp (s4 _ _ e1) e4 (by rw [length_take,length_drop];lia) fun p5 H5 _ s5 e5=>q p5 H5 ((s1.trans s4).trans s5) e5
theorem Zfm {z:Str} (h:∀ {R:VK},R (.str z) H->te σ H R) (q:∀ m H2,Same H H2->H2 m=some (.lst ([z].map V.str))->Q (.ref m) H2):tLst (Zc0 te tNil) σ H Q :=
 h ⟨by show 1<=_;rw [PySem.sizeLine_eq];decide,fun p hp=>q p _ (Same.new hp) Zad⟩
theorem Zgo (h:∀ {R:VK},(∀ m H2,Same H H2->H2 m=some (.lst (ls.map V.str))->R (.ref m) H2)->te σ H R) (hz:(ls.map (·.length)).sum+ls.length<=1000000) (q:∀ H',Same H H'->Q (.str (Str.join ⟨#[32]⟩ ls)) H'):tBM K "str" (ZlF K) (tC (.str (Str.ofString " "))) (Zc0 te tNil) σ H Q :=
 ⟨rfl,h fun m H2 s2 e2=>by
  have:=ZeD (K:=K) (z:=⟨#[32]⟩) (SqL.of e2) (by decide) (by lia) (q H2 s2)
  rw [show (Str.ofString " ")=(⟨#[32]⟩:Str) from by decide]
  exact this⟩
theorem ZeS {t u:TS} {D:Ends} {pk:Addr} {p0 c:Int} {r:List V} (hv:σ[1]?=some (some (.ref pk))) (hpk:H pk=some (.lst (.int p0::r))) (h1:p0=c->t D σ H) (h2:¬ p0=c->u D σ H):tIfS (ZiO (tOp rEq (tOp (rIxA K) (tVar 1) (tC (V.int 0))) (tC (V.int c)))) t u D σ H:=by
 refine ⟨_,hv,Zaj hpk (v:=.int p0) (Zan (n:=0) rfl rfl) ?_⟩
 refine rd_c ?_
 refine ZjL ⟨_,rfl,?_⟩
 dsimp only
 by_cases e:p0=c
 ·rw [if_pos (by simpa using e)];exact h1 e
 ·rw [if_neg (by simpa using e)];exact h2 e
end
theorem Zgw {m n:Nat} {x y:Str} (h:Lin m x) (k:Lin n y):Lin (m+n) (x++y):=⟨Zdv h.1 k.1,by rw [ZaC];exact Nat.add_le_add h.2.1 k.2.1,by rw [Za8];exact fun z=>(mem_append.mp z).elim h.2.2 k.2.2⟩
theorem Zih {y:Str} (h:y=⟨#[10]⟩) (k:Bool):repS y (if k then 1 else 0)=Str.empty\/repS y (if k then 1 else 0)=⟨#[10]⟩:=by
 subst h
 cases k
 ·exact .inl rfl
 ·exact .inr rfl
theorem TB.feeds {L F M:Nat} {t:Str} (h:TB L F M t) {a b:Str} (ha:a=Str.empty\/a=⟨#[10]⟩) (hb:b=Str.empty\/b=⟨#[10]⟩):TB (L+2) (F+2) M (a++t++b):=by
 have one:∀ {a:Str},a=Str.empty\/a=⟨#[10]⟩->Zbd a/\a.length<=1/\(cs a=[]\/cs a=[10]):=fun z=>by
  rcases z with rfl|rfl
  ·exact ⟨asc_mem.mpr fun c hc=>(by cases hc),by decide,.inl rfl⟩
  ·exact ⟨asc_mem.mpr fun c hc=>(by rw [mem_singleton.mp hc];decide),by decide,.inr rfl⟩
 obtain ⟨a1,a2,a3⟩:=one ha
 obtain ⟨b1,b2,b3⟩:=one hb
 have n0:∀ {M},LnW M ([]:List Nat):=fun u v w e n=>by
  have:=congrArg List.length e
  simp at this
  lia
 refine ⟨Zdv (Zdv a1 h.asc) b1,by rw [ZaC,ZaC];have:=h.len;lia,?_,?_⟩
 ·rw [Za8,Za8,count_append,count_append]
  have:=h.fd
  have:=count_le_length (a:=10) (l:=cs a)
  have:=count_le_length (a:=10) (l:=cs b)
  rw [Za0] at *
  lia
 ·rw [Za8,Za8]
  have l1:LnW M (cs a++cs t):=by
   rcases a3 with e|e
   ·rw [e];exact h.ln
   ·rw [e];exact LnW.sep n0 h.ln
  rcases b3 with e|e
  ·rw [e,append_nil];exact l1
  ·rw [e];exact LnW.sep l1 n0
end L2
end
section
namespace HT
open PySem PySem.Spec PyProof.Rows L2
end HT
namespace L2
open PySem PySem.Spec PyProof.Rows
end L2
end
section
namespace L2
open PySem PySem.Spec PyProof.Rows
end L2
end
section
namespace L2
open PySem PySem.Spec PyProof.Rows
noncomputable def rNeE (K:PySem.W.Frag):R2:=fun x y H Q=>∃ a b xs,x=.ref a/\y=.ref b/\SqL K H a xs/\SqL K H b []/\Q (.bl (!decide (xs=[]))) H
theorem op_neE {X:Cx} (hu:X.A.units+64 < cLine):OpR X (compareOp .NotEq) (rNeE X.K):=by
 rintro pins s σ H x y v u Q I rx ry ⟨a,b,xs,rfl,rfl,ha,hb,q⟩
 by_cases hx:xs=[]
 ·subst hx
  refine ZmJ hu pins s σ H _ _ v u Q I rx ry ⟨a,b,[],[],[],[],rfl,rfl,ha,hb,Zaq,Zaq,rfl,rfl,by simp [D.deps],?_⟩
  rw [ZcU]
  simpa using q
 ·cases rx;cases ry
  obtain ⟨its,vx,ht,_⟩:=I.list ha
  obtain ⟨its',vy,ht',_⟩:=I.list hb
  have l1:=vx.length
  have l2:=vy.length
  have hl:its.length≠its'.length:=by
   have:0 < xs.length:=length_pos_iff.mpr hx
   have l2:0=its'.length:=l2
   lia
  refine SeqAt.RcNeAt.lists_lengths ht.isList ht'.isList (by simpa using hl) (by lia) _ _ _ _ (ZaX I q ?_)
  simp [hx]
theorem k_neE {X:Cx} {K:PySem.W.Frag} (h:X.K=K) (hu:X.A.units+64 < cLine):OpR X (compareOp .NotEq) (rNeE K):=h▸op_neE hu
theorem rd_neE {K:PySem.W.Frag} {H:Hp} {a b:Addr} {xs:List V} {Q:VK} (h1:H a=some (.lst xs)) (h2:H b=some (.lst [])) (q:Q (.bl (!decide (xs=[]))) H):rNeE K (.ref a) (.ref b) H Q:=⟨a,b,xs,rfl,rfl,SqL.of h1,SqL.of h2,q⟩
end L2
end
section
namespace L2
open PySem PySem.Spec PyProof.Rows
section
variable {X:Cx} {tg elt iter:Expr} {ifs:List Expr} {sc:Scope} {pos:Pos} {LN FN:List Str} {fr:List Nat} {wi:TI} {g:TG} {tt:TT} {te:TE}
theorem Zeh (hc:X.calm=true) (S:BkScope X.N sc X.env.scope LN FN fr) (hi:PI X tg iter wi)
  (hg:∀ cl C fp pins s H,PG (bkCx X LN FN sc cl C fp pins s H) tg g) (ht:∀ cl C fp pins s H,PTs (bkCx X LN FN sc cl C fp pins s H) ifs tt) (he:∀ cl C fp pins s H,BkIn X C fp pins s H->PE (bkX X LN FN sc cl C fp pins s H) elt te)
  (hs:∀ x,foldedSetIterable iter X.env x=pure x:=by intro _;rfl):PE X (.ListComp elt [⟨tg,iter,ifs,0⟩] sc pos) (Zjk LN fr wi g tt te):=by
 intro pins s σ H Q I h
 rw [eval_ListComp]
 obtain ⟨cl,ecl,h1,h2⟩:=ZdU (scope:=sc) (env:=X.env) fun y hy hk=>I.ok.has y.1 (S.free y hy hk)
 refine wpAny_comprehension_free (use:=none) rfl hs ecl S.kind S.names (thn (hi pins s σ H _ I h) fun v s1 q1=>thn q1 fun itv s2 q2=>?_)
 obtain ⟨it,fp,tn,J,H2,e,I2,T,st2,f2,W,⟨m0,w0⟩,turn⟩:=q2
 subst e
 refine ZgS (R:=fun acc C=>compPost (model X.prog X.w) X.A X.xe none (EP X pins σ Q) acc C) hc S hg ht he h1 h2 I2 T st2 f2 w0 turn (fun D C s' H' ys m hn J fC q=>?_) (fun _ _ _ _ z=>z)
 refine ⟨m,hn,fun h' sb=>⟨.ref D,_,J.turned (t':=s'.toks) (fun b o hb e=>(sb.2 b hb).trans e) fC.1 fC.2.1 fC.2.2.2.1 fC.2.2.2.2.1 fC.2.2.2.2.2,rfl,q⟩⟩
end
noncomputable def isZ (z:Str):Value->Bool
 | .str a _=>a == z
 | _=>false
theorem ZfV {z : Str} : ∀ {zs : List Str} {its : List Value}, Vals (zs.map V.str) its -> its.countP (isZ z) = zs.countP (· == z)
  | [], _, .nil => rfl
  | a :: zs, _, .cons r t => by
    obtain ⟨u, rfl⟩ := r
    rw [countP_cons, countP_cons, ZfV t]
    rfl
theorem Zh9 : ∀ {zs : List Str} {its : List Value}, Vals (zs.map V.str) its -> ∀ y ∈ its, ∃ a t, y = .str a t
  | [], _, .nil, _, h => by cases h
  | a :: zs, _, .cons r t, y, h => by
    obtain ⟨u, rfl⟩ := r
    rcases mem_cons.mp h with rfl | h
    · exact ⟨a, u, rfl⟩
    · exact Zh9 t y h
section
variable {X:Cx}
noncomputable def rCnt (K:PySem.W.Frag):V->List V->Hp->VK->Prop:=fun x vs H Q=>∃ a zs z,x=.ref a/\vs=[.str z]/\SqT K H a ((zs:List Str).map V.str)/\Q (.int (zs.countP (· == z):Nat)) H
theorem ZlX:MtR X "tuple.count" (rCnt X.K):=by
 intro pins s σ H x vs v us Q I rx rv h
 obtain ⟨a,zs,z,rfl,rfl,ha,q⟩:=h
 cases rx
 obtain ⟨u,rfl,ru⟩:=rv.one
 obtain ⟨t,rfl⟩:=ru
 obtain ⟨its,vx,⟨⟨cl,dd,da,sl⟩,e,hc,n,hd⟩,_⟩:=I.tuple ha
 dsimp only at hc hd
 subst hc hd
 refine call_meets F.slot_tuple_count ⟨_,e,rfl⟩ F.entry_tuple_count (F.args_tuple_count_2 _ _) (SeqAt.tuple_countAt a its.toArray n dd sl (.str z t) (isZ z)) ⟨e,fun y hy=>?_,?_⟩
 ·obtain ⟨b,t',rfl⟩:=Zh9 vx y (by simpa using hy)
  exact SeqAt.EqAt.str_str b t' z t
 ·refine ⟨.int _,H,I.tok _,⟨_,rfl⟩,?_⟩
  have:its.toArray.toList.countP (isZ z)=zs.countP (· == z):=by rw [toList_toArray];exact ZfV vx
  rw [this]
  exact q
theorem Zkt {K:PySem.W.Frag} (h:X.K=K):MtR X "tuple.count" (rCnt K):=h▸ZlX
theorem Zin {K:PySem.W.Frag} {a:Addr} {zs:List Str} {z:Str} {H:Hp} {Q:VK} (ha:SqT K H a (zs.map V.str)) (q:Q (.int (zs.countP (· == z):Nat)) H):rCnt K (.ref a) [.str z] H Q:=⟨a,zs,z,rfl,rfl,ha,q⟩
end
noncomputable def deedT:List (Str×List Str):=[("go",["edge"]),("test",["edge","edge"]),("tell",["edge"]),("take",["edge"]),("hold",["number","number","edge"]),("leave",[])]
noncomputable def ZhA (K:PySem.W.Frag) (a:Addr) (xs:List V):Prop:=CTup K a xs/\∃ o,K.lookup a=some o/\o.cls=.type "tuple"/\o.dict=none
noncomputable def CDatN (K:PySem.W.Frag) (w:World) (a:Addr) (tb:List (Str×List Str)):Prop :=
 (a == sysModules)=false/\(tb.map (·.1)).Nodup/\∃ (rows:List (Str×Tok×Addr)) (ep:Nat),K.lookup a=some { cls:=.type "dict",data:=.dict (rows.map (entC w)).toArray ep } /\
  Paired (fun (p:Str×List Str) (q:Str×Tok×Addr)=>p.1=q.1/\ZhA K q.2.2 (p.2.map V.str)) tb rows
theorem Zmh {K : PySem.W.Frag} {tb : List (Str × List Str)} {rows : List (Str × Tok × Addr)} (h : Paired (fun (p : Str × List Str) (q : Str × Tok × Addr) => p.1 = q.1 /\ ZhA K q.2.2 (p.2.map V.str)) tb rows) (x : Str) :
    (tb.lookup x = none /\ valueAt (rows.map fun q => ((Sum.inr q.1 : Key), Value.ref q.2.2)) (Sum.inr x) = none) \/ ∃ ks a, tb.lookup x = some ks /\ ZhA K a (ks.map V.str) /\ valueAt (rows.map fun q => ((Sum.inr q.1 : Key), Value.ref q.2.2)) (Sum.inr x) = some (.ref a) := by
  induction h with
  | nil => exact .inl ⟨rfl, rfl⟩
  | @cons p q ps qs hq t ih =>
    obtain ⟨p1, p2⟩ := p
    obtain ⟨q1, qt, qa⟩ := q
    obtain ⟨e, c⟩ := hq
    dsimp only at e c
    subst e
    by_cases z : x = p1
    · subst z
      refine .inr ⟨p2, qa, by simp [List.lookup], c, ?_⟩
      simp [valueAt]
    · have z1 : (x == p1) = false := by simpa using z
      have z2 : ¬ p1 = x := fun w => z w.symm
      have e1 : List.lookup x ((p1, p2) :: ps) = List.lookup x ps := by simp [List.lookup, z1]
      have e2 : valueAt (((p1, qt, qa) :: qs).map fun q => ((Sum.inr q.1 : Key), Value.ref q.2.2)) (Sum.inr x) = valueAt (qs.map fun q => ((Sum.inr q.1 : Key), Value.ref q.2.2)) (Sum.inr x) := by
        simp [valueAt, z2]
      rw [e1, e2]
      exact ih
theorem CDatN.dict {P:Program} {w:World} {K:PySem.W.Frag} {h:Heap} {a:Addr} {tb:List (Str×List Str)} (c:CDatN K w a tb) (hk:K.In h):∃ vs,h.DictOf (Zbt P w) a vs /\
  ∀ x,(tb.lookup x=none/\valueAt vs (Sum.inr x)=none)\/∃ ks b,tb.lookup x=some ks/\ZhA K b (ks.map V.str)/\valueAt vs (Sum.inr x)=some (.ref b):=by
 obtain ⟨hs,nd,rows,ep,hl,pr⟩:=c
 refine ⟨rows.map fun q=>((Sum.inr q.1:Key),Value.ref q.2.2),⟨_,_,ep,hk a _ hl,⟨rfl,rfl,rfl⟩,rfl,?_,by simpa using ZgL rows,?_⟩,Zmh pr⟩
 ·intro e he
  have he:e∈rows.map (entC w):=by simpa using he
  obtain ⟨q,hq,rfl⟩:=mem_map.mp he
  exact ⟨.inr q.1,Zdp P w q.1 q.2.1,rfl⟩
 ·have e:rows.map (·.1)=tb.map (·.1):=by
   clear hl nd
   induction pr with
   | nil=>rfl
   | cons hq t ih=>rw [map_cons,map_cons,ih,hq.1]
  rw [map_map]
  have:(rows.map (·.1)).Nodup:=e▸nd
  have e2:rows.map ((fun x:Key×Value=>x.1) ∘ fun q:Str×Tok×Addr=>((Sum.inr q.1:Key),Value.ref q.2.2))=(rows.map (·.1)).map Sum.inr:=by rw [map_map];rfl
  rw [e2]
  exact List.Pairwise.map _ (fun a b z z'=>z (Sum.inr.inj z')) this
theorem ZnQ {K:PySem.W.Frag} {tb:List (Str×List Str)} {rows:List (Str×Tok×Addr)} (h:Paired (fun (p:Str×List Str) (q:Str×Tok×Addr)=>p.1=q.1/\ZhA K q.2.2 (p.2.map V.str)) tb rows):Paired (fun (p:Str×List Str) (q:Str×Tok×Addr)=>p.1=q.1/\CTup K q.2.2 (p.2.map V.str)) tb rows:=by
 induction h with
 | nil=>exact .nil
 | cons hq _ ih=>exact .cons ⟨hq.1,hq.2.1⟩ ih
theorem CDatN.cd {K:PySem.W.Frag} {w:World} {a:Addr} {tb:List (Str×List Str)} (c:CDatN K w a tb):CDat K w a tb:=by
 obtain ⟨h1,h2,rows,ep,h3,h4⟩:=c
 exact ⟨h1,h2,rows,ep,h3,ZnQ h4⟩
noncomputable def IsCDN (K:PySem.W.Frag) (w:World) (mg:Str->Option Value) (x:Str) (tb:List (Str×List Str)):Prop:=∃ a,mg x=some (.ref a)/\CDatN K w a tb
noncomputable def tCDN (K:PySem.W.Frag) (w:World) (tb:List (Str×List Str)):TE:=fun _ H Q=>∀ a,CDatN K w a tb->Q (.ref a) H
noncomputable def Zjl (K:PySem.W.Frag) (w:World) (tb:List (Str×List Str)) (td ty:TE):TE:=fun σ H Q=>td σ H fun x H1=>ty σ H1 fun y H2=>∃ a k ks,x=.ref a/\CDatN K w a tb/\y=.str k/\tb.lookup k=some ks/\∀ b,ZhA K b (ks.map V.str)->Q (.ref b) H2
section
variable {X:Cx} {o i e value:Expr} {pos pos' tpos:Pos} {td ty tv:TE} {x:Str} {K:PySem.W.Frag} {w:World} {tb:List (Str×List Str)}
theorem ZmI (hg:Gl X x) (h:IsCDN K w X.mg x tb) (hd:(x == ("__debug__":Str))=false:=by decide):PE X (.Name x pos) (tCDN K w tb):=by
 obtain ⟨a,h,r⟩:=h
 intro pins s σ H Q I q
 exact Zfq (v:=.ref a) hg h rfl hd pins s σ H Q I (q a r)
theorem Zj1 (hK:X.K=K) (hw:X.w=w) (ho:PE X o td) (hi:PE X i ty) (hs:NoSl i):PE X (.Subscript o i pos) (Zjl K w tb td ty):=by
 subst hK;subst hw
 intro pins s σ H Q I h
 refine Zm7 PySem.F.slot_dict_getitem.lookup hs (thn (ho pins s σ H _ I h) fun u s1 ⟨x,H1,I1,rx,q1⟩=>thn (hi pins s1 σ H1 _ I1 q1) fun iv s2 ⟨y,H2,I2,ry,a,k,ks,ex,c,ey,l,q2⟩=>?_)
 subst ex;subst ey
 obtain rfl:u=Value.ref a:=rx
 obtain ⟨vs,dd,hf⟩:=c.dict (P:=X.prog) I2.kIn
 refine ⟨dd.typeIs,?_⟩
 rcases hf k with ⟨e1,e2⟩|⟨ks',b,e1,ct,e2⟩
 ·rw [l] at e1;cases e1
 ·rw [l] at e1;cases e1
  exact wpAny_getItem_of (Zku (k:=Sum.inr k) ry) dd.mapOf e2 ⟨.ref b,H2,I2.tok _,rfl,q2 b ct⟩
end
theorem ZmD {K:PySem.W.Frag} {w:World} {tb:List (Str×List Str)} {σ:St} {H:Hp} {Q:VK} (h:∀ a,CDatN K w a tb->Q (.ref a) H):tCDN K w tb σ H Q:=h
noncomputable def cdNK (K:PySem.W.Frag) (w:World) (tb:List (Str×List Str)) (Q:VK) (x y:V) (H2:Hp):Prop:=∃ a k ks,x=.ref a/\CDatN K w a tb/\y=.str k/\tb.lookup k=some ks/\∀ b,ZhA K b (ks.map V.str)->Q (.ref b) H2
theorem ZjO {K:PySem.W.Frag} {w:World} {tb:List (Str×List Str)} {td ty:TE} {σ:St} {H:Hp} {Q:VK} (h:td σ H fun x H1=>ty σ H1 fun y H2=>cdNK K w tb Q x y H2):Zjl K w tb td ty σ H Q:=h
theorem Zom {K:PySem.W.Frag} {w:World} {tb:List (Str×List Str)} {a:Addr} {k:Str} {ks:List Str} {H:Hp} {Q:VK} (c:CDatN K w a tb) (l:tb.lookup k=some ks) (h:∀ b,ZhA K b (ks.map V.str)->Q (.ref b) H):cdNK K w tb Q (.ref a) (.str k) H:=⟨a,k,ks,rfl,c,rfl,l,h⟩
end L2
end
section
namespace L2
open PySem PySem.Spec PyProof.Rows PySem.Builtin PySem.Builtin.Str PySem.NumText
theorem Zia (l:List Nat) (c:Nat):digitsVal (l++[c])=digitsVal l * 10+(c - 48):=by
 unfold digitsVal
 rw [foldl_append]
 rfl
theorem Zhy {l:List Nat} {c:Nat} (h:AllDigits (l++[c])):AllDigits l/\48<=c/\c<=57:=⟨fun x hx=>h x (mem_append_left _ hx),h c (mem_append_right _ mem_cons_self)⟩
theorem Zms : ∀ (k : Nat) (l : List Nat), l.length = k -> AllDigits l -> digitsVal l < 10 ^ k := by
  intro k
  induction k with
  | zero =>
    intro l hl _
    rw [eq_nil_of_length_eq_zero hl]
    decide
  | succ k ih =>
    intro l hl h
    have hne : l ≠ [] := fun e => by rw [e] at hl; cases hl
    obtain ⟨a, c, rfl⟩ : ∃ a c, l = a ++ [c] := ⟨_, _, (dropLast_concat_getLast hne).symm⟩
    obtain ⟨ha, hc⟩ := Zhy h
    have := ih a (by simpa using hl) ha
    rw [Zia, Nat.pow_succ]
    lia
theorem Zhk : ∀ (k : Nat) (l : List Nat), l.length = k -> AllDigits l -> l ≠ [] -> (l.head? ≠ some 48 \/ l = [48]) -> figs (digitsVal l) = l := by
  intro k
  induction k with
  | zero => intro l hl _ hne _; exact absurd (eq_nil_of_length_eq_zero hl) hne
  | succ k ih =>
    intro l hl h hne hh
    obtain ⟨a, c, rfl⟩ : ∃ a c, l = a ++ [c] := ⟨_, _, (dropLast_concat_getLast hne).symm⟩
    obtain ⟨ha, hc⟩ := Zhy h
    rw [Zia]
    by_cases e : a = []
    · subst e
      rw [show digitsVal [] * 10 + (c - 48) = c - 48 by show 0 * 10 + _ = _; lia, Zfa _ (by lia)]
      show [48 + (c - 48)] = [c]
      rw [Nat.add_sub_cancel' hc.1]
    · have hd : a.head? ≠ some 48 := by
        rcases hh with hh | hh
        · cases a with
          | nil => exact absurd rfl e
          | cons x r => exact hh
        · have h3 : a.length + [c].length = [48].length := by rw [<- length_append, hh]
          simp only [length_cons, length_nil] at h3
          have := length_pos_iff.mpr e
          lia
      have q := ih a (by simpa using hl) ha e (.inl hd)
      have pos : 0 < digitsVal a := by
        rcases Nat.eq_zero_or_pos (digitsVal a) with z | z
        · rw [z] at q
          exact absurd (show a.head? = some 48 by rw [<- q]; decide) hd
        · exact z
      rw [ZiF (by lia), show (digitsVal a * 10 + (c - 48)) / 10 = digitsVal a by lia, show (digitsVal a * 10 + (c - 48)) % 10 = c - 48 by lia, q, Zfa _ (by lia), Nat.add_sub_cancel' hc.1]
end L2
end
section
namespace L2
open PySem PySem.Spec PyProof.Rows PySem.Builtin PySem.Builtin.Str PySem.NumText
noncomputable def semi:Str:=";"
noncomputable def ZkW:Str:=":"
theorem ZdE:semi=⟨#[59]⟩:=by decide
theorem Zdt:ZkW=⟨#[58]⟩:=by decide
noncomputable def ZaY:Str:="edge"
noncomputable def Zbs:Str:="number"
noncomputable def ZaH:Str:="frame"
noncomputable def ZaL:Str:="stand"
noncomputable abbrev Zbj:=Int×List (Int×Int)
noncomputable abbrev ZdW:=Int×List Zbj×Int
noncomputable abbrev ZbK:=Int×Int×List Zbj
noncomputable abbrev Zh8:=Str×List Int×List ZdW
noncomputable abbrev ZaO:=Int×List ZbK×Zh8
noncomputable def both {α β γ:Type} (f:α->β->γ):Option α->Option β->Option γ
 | some x,some y=>some (f x y)
 | _,_=>none
noncomputable def ZlR:List Str->Option (Int×Int)
 | [a,b]=>both Prod.mk (ZaF 300 a) (ZaF 300 b)
 | _=>none
noncomputable def Zdn (z:Str):Option (Int×Int):=ZlR (Txt.split z ZkW)
noncomputable def Zn8:List Str->Option Zbj
 | []=>none
 | p::ps=>both Prod.mk (ZaF 300 p) (ps.mapM Zdn)
noncomputable def ZbT (z:Str):Option Zbj:=Zn8 (Txt.split z semi)
noncomputable def ZeW (ws:List Str):Option (List Zbj):=ws.mapM ZbT
noncomputable def Zbm (many:Nat) (ws:List Str):Option (List Int):=if ws.length=many+1 then (ws.drop 1).mapM (ZaF 300) else none
noncomputable def ZmK:List Int->List Zbj->Option ZdW
 | [a,b],fs=>some (a,fs,b)
 | _,_=>none
noncomputable def Zki:List Int->List Zbj->Option ZbK
 | [a,b],fs=>some (a,b,fs)
 | _,_=>none
noncomputable def Zcv (ws:List Str):Option ZdW:=if ws.head?=some ZaY then (both Prod.mk (Zbm 2 (ws.take 3)) (ZeW (ws.drop 3))).bind fun q=>ZmK q.1 q.2 else none
noncomputable def Zb3 (ws:List Str):Option ZbK:=(both Prod.mk (Zbm 2 (ws.take 3)) (ZeW (ws.drop 3))).bind fun q=>Zki q.1 q.2
noncomputable def ZdV (ws : List Str) (lines : List (List Str)) : Option Zh8 := match ws with
  | [] => none
  | w :: _ => match deedT.lookup w with
    | none => none
    | some ks => match Zbm (ks.countP (· == Zbs)) ws with
      | none => none
      | some ns => if lines.length = ks.countP (· == ZaY) then (lines.mapM Zcv).map fun es => (w, ns, es) else none
noncomputable def fD (f:Zbj):D:=formD f.1 f.2
noncomputable def Zer (fs:List Zbj):D:=.tup (fs.map fD)
noncomputable def ZcY (e:ZdW):D:=.tup [.int e.1,Zer e.2.1,.int e.2.2]
noncomputable def Zcp (f:ZbK):D:=.tup [.int f.1,.int f.2.1,Zer f.2.2]
noncomputable def ZdM (d:Zh8):D:=.tup (.str d.1::(d.2.1.map D.int++d.2.2.map ZcY))
theorem Zes {xs:List V} {k:Nat}:cutV xs (some (k:Int)) none=xs.drop k:=by
 rcases Nat.le_total k xs.length with h|h
 ·exact ZgH h
 ·unfold cutV
  have h1:HT.sIx xs.length 0 (some (k:Int))=xs.length:=by
   rw [Zdk]
   lia
  rw [h1,drop_eq_nil_of_le h,drop_length]
  simp
theorem ZkS {xs:List V} {k:Nat}:cutV xs none (some (k:Int))=xs.take k:=by
 rcases Nat.le_total k xs.length with h|h
 ·exact ZmV h
 ·unfold cutV
  have h1:HT.sIx xs.length xs.length (some (k:Int))=xs.length:=by
   rw [Zdk]
   lia
  have h2:HT.sIx xs.length 0 none=0:=rfl
  rw [h1,h2,take_of_length_le h]
  simp
theorem ZdS {ws:List Str} {ns:List Int} (h:Zbm 2 ws=some ns):∃ a b,ns=[a,b]:=by
 unfold Zbm at h
 split at h
 ·next e =>
  have hl:=(Zck h).1
  rw [length_drop,e] at hl
  rcases ns with _|⟨a,_|⟨b,_|⟨c,r⟩⟩⟩
  ·simp at hl
  ·simp at hl
  ·exact ⟨a,b,rfl⟩
  ·simp at hl
 ·cases h
noncomputable def ZaT (ws:List Str):Bool:=ws.head? == some ZaH
noncomputable def Zff (many:Int) (fr:List (List Str)):List (List Str)->Option ZaO
 | []=>none
 | dw::lines=>both (fun ps d=>(many,ps,d)) (fr.mapM Zb3) (ZdV dw lines)
noncomputable def Zbv : List (List Str) -> Option ZaO
  | [] => none
  | g0 :: rest => match Zbm 1 g0 with
    | none => none
    | some ns => Zff (ns.headD 0) (rest.takeWhile ZaT) (rest.dropWhile ZaT)
noncomputable def addG (acc:List (List (List Str))) (ws:List Str):List (List (List Str)):=match acc.getLast? with
 | some g=>acc.dropLast++[g++[ws]]
 | none=>[]
theorem ZfK {acc:List (List (List Str))} {g:List (List Str)} {ws:List Str}:addG (acc++[g]) ws=acc++[g++[ws]]:=by
 unfold addG
 rw [getLast?_concat,dropLast_concat]
noncomputable def ZdA (acc:List (List (List Str))) (ws:List Str):Option (List (List (List Str))):=if ws.head?=some ZaL then some (acc++[[ws]]) else if acc=[] then none else some (addG acc ws)
noncomputable def ZcS (acc:List (List (List Str))) (line:Str):Option (List (List (List Str))):=ZdA acc (Txt.split line Zbw)
noncomputable def ZgA (z:Str):Option (List (List (List Str))):=(Txt.split z feed).foldlM ZcS []
noncomputable def ZdC (z:Str):Option (List ZaO):=(ZgA z).bind fun gs=>gs.mapM Zbv
end L2
end
section
namespace L3
open PySem Builtin Builtin.Str
section
variable {prog:Program} {w:World} {A:Around} {E:Value->Shared->Prop} {s:Shared}
end
end L3
end
section
namespace L2
open PySem PySem.Spec PyProof.Rows
section
variable {X:Cx} {tg:Expr}
end
end L2
end
section
namespace L2
open PySem PySem.Spec PyProof.Rows
section
variable {X:Cx} {pos:Pos}
end
end L2
end
section
namespace L2
open PySem PySem.Spec PyProof.Rows
section
variable {X:Cx} {pos:Pos} {es:List Expr} {te:TE} {t:TA}
theorem Zgs {l:List Expr} (ha:PE X (.List l pos) te) (hr:PA X es t):PA X (.List l pos::es) (Zc0 te t):=ZcX ha hr rfl
theorem ZbR {l:List Expr} {k:Nat} (ha:PE X (.Tuple l k pos) te) (hr:PA X es t):PA X (.Tuple l k pos::es) (Zc0 te t):=ZcX ha hr rfl
theorem Zbi {a b:Expr} {op:Operator} (ha:PE X (.BinOp a op b pos) te) (hr:PA X es t):PA X (.BinOp a op b pos::es) (Zc0 te t):=ZcX ha hr rfl
theorem Zay {f:Expr} {as:List Expr} {ks} (ha:PE X (.Call f as ks pos) te) (hr:PA X es t):PA X (.Call f as ks pos::es) (Zc0 te t):=ZcX ha hr rfl
theorem ZcR {e:Expr} {gs} {sc} (ha:PE X (.ListComp e gs sc pos) te) (hr:PA X es t):PA X (.ListComp e gs sc pos::es) (Zc0 te t):=ZcX ha hr rfl
theorem Zap {a b:Expr} (ha:PE X (.Subscript a b pos) te) (hr:PA X es t):PA X (.Subscript a b pos::es) (Zc0 te t):=ZcX ha hr rfl
theorem Zac {x:Str} (ha:PE X (.Name x pos) te) (hr:PA X es t):PA X (.Name x pos::es) (Zc0 te t):=ZcX ha hr rfl
theorem Zaf {c:Const} {k:Nat} (ha:PE X (.Constant c k pos) te) (hr:PA X es t):PA X (.Constant c k pos::es) (Zc0 te t):=ZcX ha hr rfl
theorem Zir {a:Expr} {os:List CmpOp} {cs:List Expr} (ha:PE X (.Compare a os cs pos) te) (hr:PA X es t):PA X (.Compare a os cs pos::es) (Zc0 te t):=ZcX ha hr rfl
theorem ZlS {o:BoolOp} {cs:List Expr} (ha:PE X (.BoolOp o cs pos) te) (hr:PA X es t):PA X (.BoolOp o cs pos::es) (Zc0 te t):=ZcX ha hr rfl
theorem Zcm {l:List Expr} {p:Pos} {i:Nat} {x:Str} {pos':Pos} (hN:X.N.Nodup) (hi:X.N[i]?=some x) (hx:Loc X.env.scope x) (he:PE X (.List l p) te) (hf:X.fn x=true\/X.env.scope.names.lookup x=some .local:=by first|exact .inl rfl|exact .inr rfl|assumption):PS X (.Assign [.Name x pos'] (.List l p) pos) (tAsg te (Zd2 i)):=Zc2 hN hi hx he rfl hf
theorem ZnH {l:List Expr} {k:Nat} {p:Pos} {i:Nat} {x:Str} {pos':Pos} (hN:X.N.Nodup) (hi:X.N[i]?=some x) (hx:Loc X.env.scope x) (he:PE X (.Tuple l k p) te) (hf:X.fn x=true\/X.env.scope.names.lookup x=some .local:=by first|exact .inl rfl|exact .inr rfl|assumption):PS X (.Assign [.Name x pos'] (.Tuple l k p) pos) (tAsg te (Zd2 i)):=Zc2 hN hi hx he rfl hf
theorem Zbr {a b:Expr} {op:Operator} {p:Pos} {i:Nat} {x:Str} {pos':Pos} (hN:X.N.Nodup) (hi:X.N[i]?=some x) (hx:Loc X.env.scope x) (he:PE X (.BinOp a op b p) te) (hf:X.fn x=true\/X.env.scope.names.lookup x=some .local:=by first|exact .inl rfl|exact .inr rfl|assumption):PS X (.Assign [.Name x pos'] (.BinOp a op b p) pos) (tAsg te (Zd2 i)):=Zc2 hN hi hx he rfl hf
theorem Zbk {f:Expr} {as:List Expr} {ks} {p:Pos} {i:Nat} {x:Str} {pos':Pos} (hN:X.N.Nodup) (hi:X.N[i]?=some x) (hx:Loc X.env.scope x) (he:PE X (.Call f as ks p) te) (hf:X.fn x=true\/X.env.scope.names.lookup x=some .local:=by first|exact .inl rfl|exact .inr rfl|assumption):PS X (.Assign [.Name x pos'] (.Call f as ks p) pos) (tAsg te (Zd2 i)):=Zc2 hN hi hx he rfl hf
theorem Zfo {a b:Expr} {p:Pos} {i:Nat} {x:Str} {pos':Pos} (hN:X.N.Nodup) (hi:X.N[i]?=some x) (hx:Loc X.env.scope x) (he:PE X (.Subscript a b p) te) (hf:X.fn x=true\/X.env.scope.names.lookup x=some .local:=by first|exact .inl rfl|exact .inr rfl|assumption):PS X (.Assign [.Name x pos'] (.Subscript a b p) pos) (tAsg te (Zd2 i)):=Zc2 hN hi hx he rfl hf
end
end L2
end
section
namespace L2
open PySem PySem.Spec PyProof.Rows
section
variable {X:Cx} {tg:Expr}
end
end L2
end
section
namespace L2
open PySem PySem.Spec PyProof.Rows PySem.Builtin PySem.Builtin.Str PySem.NumText
noncomputable def Sm (n:Int):Prop:=n.natAbs < 10 ^ 300
theorem ZdX {n:Int} (h:Sm n):n.natAbs.log2 < 1920:=by
 unfold Sm at h
 by_cases z:n.natAbs=0
 ·rw [z];decide
 ·rw [Nat.log2_lt z]
  refine Nat.lt_of_lt_of_le h (Nat.le_trans (Nat.pow_le_pow_left (by decide:10<=2 ^ 4) 300) ?_)
  rw [<-Nat.pow_mul]
  exact Nat.pow_le_pow_right (by decide) (by decide)
noncomputable def Zei (q:Int×Int):Str:=numS q.1++ZkW++numS q.2
noncomputable def fT (f:Zbj):Str:=Str.join semi (numS f.1::f.2.map Zei)
noncomputable def ZaM (w:Str) (a b:Int) (fs:List Zbj):Str:=Str.join Zbw (rowT w [a,b]::fs.map fT)
noncomputable def Za2 (st:ZaO):List Str:=rowT ZaL [st.1]::(st.2.1.map (fun f=>ZaM ZaH f.1 f.2.1 f.2.2)++(rowT st.2.2.1 st.2.2.2.1::st.2.2.2.2.map fun e=>ZaM ZaY e.1 e.2.2 e.2.1))
noncomputable def ZfO (l:List ZaO):Str:=Str.join feed (l.map fun st=>Str.join feed (Za2 st))
noncomputable def FmOk (f:Zbj):Prop:=Sm f.1/\∀ q∈f.2,Sm q.1/\Sm q.2
end L2
end
section
namespace L2
open PySem PySem.Spec PyProof.Rows PySem.Builtin PySem.Builtin.Str PySem.NumText
theorem Zdb {z : Str} {n : Int} (h : ZaF 300 z = some n) : numS n = z /\ Sm n := by
  unfold ZaF at h
  split at h
  · next hc =>
    obtain ⟨⟨h1, h300⟩, h2⟩ := hc
    have hd := allFig.mp h2
    have hl := Za0 z
    split at h
    · cases h
    · next hz =>
      unfold figT at h1 h300 hd hz
      split at h1
      · next e =>
        rw [if_pos e] at h300 hd hz
        cases ez : cs z with
        | nil => rw [ez] at e; cases e
        | cons c r =>
          rw [ez] at e h1 h300 hd hl hz
          cases e
          have hr : List.drop 1 (45 :: r) = r := rfl
          rw [hr] at h1 h300 hd hz
          simp only [length_cons] at hl
          have hne : r ≠ [] := fun z => by rw [z] at h1; exact absurd h1 (by decide)
          rw [intText_neg ez hd hne (by lia)] at h
          have h := Option.some.inj h
          have hh : r.head? ≠ some 48 := fun q => hz ⟨q, fun w => by cases w⟩
          have fb := Zhk _ r rfl hd hne (.inl hh)
          have pos : 0 < digitsVal r := by
            rcases Nat.eq_zero_or_pos (digitsVal r) with z | z
            · rw [z] at fb
              exact absurd (show r.head? = some 48 by rw [<- fb]; decide) hh
            · exact z
          have lt := Zms _ r rfl hd
          have le : (10 : Nat) ^ r.length <= 10 ^ 300 := Nat.pow_le_pow_right (by decide) h300
          refine ⟨Zet ?_, ?_⟩
          · rcases Zek n with ⟨m, e1, e2⟩ | ⟨m, hm, e1, e2⟩
            · lia
            · have : m = digitsVal r := by lia
              rw [e2, this, fb, ez]
          · unfold Sm
            have : n.natAbs = digitsVal r := by lia
            rw [this]
            exact Nat.lt_of_lt_of_le lt le
      · next e =>
        rw [if_neg e] at h300 hd hz
        have hne : cs z ≠ [] := fun z => by rw [z] at h1; exact absurd h1 (by decide)
        rw [intText_digits hd hne (by lia)] at h
        have h := Option.some.inj h
        have hh : (cs z).head? ≠ some 48 \/ cs z = [48] := by
          by_cases q : (cs z).head? = some 48
          · by_cases w : cs z = [48]
            · exact .inr w
            · exact absurd ⟨q, w⟩ hz
          · exact .inl q
        have h : ((digitsVal (cs z) : Nat) : Int) = n := h
        have fb := Zhk _ (cs z) rfl hd hne hh
        have lt := Zms _ (cs z) rfl hd
        have le : (10 : Nat) ^ (cs z).length <= 10 ^ 300 := Nat.pow_le_pow_right (by decide) h300
        refine ⟨Zet ?_, ?_⟩
        · rcases Zek n with ⟨m, e1, e2⟩ | ⟨m, hm, e1, e2⟩
          · have : m = digitsVal (cs z) := by lia
            rw [e2, this, fb]
          · lia
        · unfold Sm
          have : n.natAbs = digitsVal (cs z) := by lia
          rw [this]
          exact Nat.lt_of_lt_of_le lt le
  · cases h
theorem Zkx {c : Nat} : ∀ {ps : List (List Nat)}, ps ≠ [] -> (jn c ps).length + 1 = (ps.map (·.length)).sum + ps.length
  | [], h => absurd rfl h
  | [x], _ => by show x.length + 1 = (x.length + 0) + 1; lia
  | x :: y :: r, _ => by
    have := Zkx (c := c) (ps := y :: r) (cons_ne_nil _ _)
    show (x ++ c :: jn c (y :: r)).length + 1 = (x.length + ((y :: r).map (·.length)).sum) + ((y :: r).length + 1)
    rw [length_append, length_cons]
    lia
theorem Zc6 {c:Nat} {ps:List Str} (h:ps≠[]):(Str.join ⟨#[c]⟩ ps).length+1=(ps.map (·.length)).sum+ps.length:=by
 rw [<-Za0,Zbg,Zkx (fun z=>h (map_eq_nil_iff.mp z)),length_map,map_map]
 congr 2
theorem Zcl {α β γ : Type} {f : α -> Option β} {g : α -> γ} {k : β -> γ} {ok : β -> Prop} : ∀ {l : List α} {r : List β}, (∀ a ∈ l, ∀ b, f a = some b -> k b = g a /\ ok b) -> l.mapM f = some r -> r.map k = l.map g /\ ∀ b ∈ r, ok b
  | [], r, _, h => by
    cases h
    exact ⟨rfl, fun b hb => by cases hb⟩
  | x :: l, r, hf, h => by
    rw [mapM_cons] at h
    cases ex : f x with
    | none => rw [ex] at h; cases h
    | some y =>
      rw [ex] at h
      cases el : l.mapM f with
      | none => rw [el] at h; cases h
      | some ys =>
        rw [el] at h
        cases h
        obtain ⟨h1, h2⟩ := Zcl (fun a ha => hf a (mem_cons_of_mem _ ha)) el
        obtain ⟨e1, e2⟩ := hf x mem_cons_self y ex
        refine ⟨by rw [map_cons, map_cons, h1, e1], fun b hb => ?_⟩
        rcases mem_cons.mp hb with rfl | hb
        · exact e2
        · exact h2 b hb
theorem Zc8 {α β γ : Type} {f : α -> β -> γ} {x : Option α} {y : Option β} {r : γ} (h : both f x y = some r) : ∃ a b, x = some a /\ y = some b /\ r = f a b := by
  cases x with
  | none => cases y <;> cases h
  | some a =>
    cases y with
    | none => cases h
    | some b => cases h; exact ⟨a, b, rfl, rfl, rfl⟩
theorem Zl3 (s x:Str):Str.join s [x]=x:=rfl
theorem Zkw (s x:Str) {l:List Str} (h:l≠[]):Str.join s (x::l)=x++s++Str.join s l:=by
 have:=Zep s (a:=[x]) (b:=l) (cons_ne_nil _ _) h
 rw [Zl3] at this
 exact this
theorem Zj4 {z:Str} {q:Int×Int} (h:Zdn z=some q):Zei q=z/\Sm q.1/\Sm q.2:=by
 unfold Zdn at h
 have jl:=StrLaws.join_split z ZkW
 rcases es:Txt.split z ZkW with _|⟨a,_|⟨b,_|⟨c,r⟩⟩⟩
 ·rw [es] at h;cases h
 ·rw [es] at h;cases h
 ·rw [es] at h jl
  obtain ⟨x,y,e1,e2,rfl⟩:=Zc8 h
  obtain ⟨n1,s1⟩:=Zdb e1
  obtain ⟨n2,s2⟩:=Zdb e2
  refine ⟨?_,s1,s2⟩
  unfold Zei
  rw [n1,n2]
  exact jl
 ·rw [es] at h;cases h
theorem ZkI {z : Str} {f : Zbj} (h : ZbT z = some f) : fT f = z /\ FmOk f := by
  unfold ZbT at h
  have jl := StrLaws.join_split z semi
  cases es : Txt.split z semi with
  | nil => rw [es] at h; cases h
  | cons p ps =>
    rw [es] at h jl
    obtain ⟨x, y, e1, e2, rfl⟩ := Zc8 h
    obtain ⟨n1, s1⟩ := Zdb e1
    obtain ⟨n2, s2⟩ := Zcl (g := _root_.id) (k := Zei) (ok := fun q => Sm q.1 /\ Sm q.2) (fun a _ b e => Zj4 e) e2
    refine ⟨?_, s1, s2⟩
    unfold fT
    rw [n1, n2, map_id]
    exact jl
theorem Zi3 {ws:List Str} {fs:List Zbj} (h:ZeW ws=some fs):fs.map fT=ws/\∀ f∈fs,FmOk f:=by
 obtain ⟨h1,h2⟩:=Zcl (g:=_root_.id) (k:=fT) (ok:=FmOk) (fun a _ b e=>ZkI e) h
 rw [map_id] at h1
 exact ⟨h1,h2⟩
theorem ZdT {k:Nat} {ws:List Str} {ns:List Int} (h:Zbm k ws=some ns):∃ w,ws=w::ns.map numS/\ns.length=k/\∀ n∈ns,Sm n:=by
 unfold Zbm at h
 split at h
 ·next e =>
  obtain ⟨h1,h2⟩:=Zcl (g:=_root_.id) (k:=numS) (ok:=Sm) (fun a _ b e=>Zdb e) h
  have hl:=(Zck h).1
  rw [map_id] at h1
  rw [length_drop,e] at hl
  cases ws with
  | nil=>cases e
  | cons w ws=>exact ⟨w,by rw [h1];rfl,by lia,h2⟩
 ·cases h
theorem Zb6 (w : Str) (a b : Int) (fs : List Zbj) : ZaM w a b fs = Str.join Zbw (w :: numS a :: numS b :: fs.map fT) := by
  unfold ZaM rowT
  cases hf : fs.map fT with
  | nil => rfl
  | cons x l =>
    rw [Zkw _ _ (cons_ne_nil _ _), show w :: numS a :: numS b :: x :: l = (w :: [a, b].map numS) ++ (x :: l) from rfl, Zep _ (cons_ne_nil _ _) (cons_ne_nil _ _)]
theorem Zf7 {ws:List Str} {ns:List Int} {fs:List Zbj} (h1:Zbm 2 (ws.take 3)=some ns) (h2:ZeW (ws.drop 3)=some fs):∃ w a b,ns=[a,b]/\ws.head?=some w/\Str.join Zbw ws=ZaM w a b fs/\Sm a/\Sm b/\∀ f∈fs,FmOk f:=by
 obtain ⟨a,b,rfl⟩:=ZdS h1
 obtain ⟨w,e,_,sm⟩:=ZdT h1
 obtain ⟨f1,f2⟩:=Zi3 h2
 have ew:ws=w::numS a::numS b::fs.map fT:=by
  rw [<-take_append_drop 3 ws,e,f1]
  rfl
 refine ⟨w,a,b,rfl,by rw [ew];rfl,by rw [Zb6,<- ew],sm a mem_cons_self,sm b (mem_cons_of_mem _ mem_cons_self),f2⟩
noncomputable def EdOk (e:ZdW):Prop:=Sm e.1/\Sm e.2.2/\∀ g∈e.2.1,FmOk g
noncomputable def Zi9 (f:ZbK):Prop:=Sm f.1/\Sm f.2.1/\∀ g∈f.2.2,FmOk g
noncomputable def Zmc (e:ZdW):Str:=ZaM ZaY e.1 e.2.2 e.2.1
noncomputable def ZkH (f:ZbK):Str:=ZaM ZaH f.1 f.2.1 f.2.2
theorem ZkO {ws:List Str} {e:ZdW} (h:Zcv ws=some e):Zmc e=Str.join Zbw ws/\EdOk e:=by
 unfold Zcv at h
 split at h
 ·next hw =>
  obtain ⟨q,hq,h⟩:=Option.bind_eq_some_iff.mp h
  obtain ⟨ns,fs,e1,e2,rfl⟩:=Zc8 hq
  obtain ⟨w,a,b,rfl,eh,el,s1,s2,s3⟩:=Zf7 e1 e2
  cases h
  rw [hw] at eh
  cases eh
  exact ⟨el.symm,s1,s2,s3⟩
 ·cases h
theorem Zi0 {ws:List Str} {f:ZbK} (hw:ZaT ws=true) (h:Zb3 ws=some f):ZkH f=Str.join Zbw ws/\Zi9 f:=by
 unfold Zb3 at h
 obtain ⟨q,hq,h⟩:=Option.bind_eq_some_iff.mp h
 obtain ⟨ns,fs,e1,e2,rfl⟩:=Zc8 hq
 obtain ⟨w,a,b,rfl,eh,el,s1,s2,s3⟩:=Zf7 e1 e2
 cases h
 unfold ZaT at hw
 rw [eh] at hw
 have hw:w=ZaH:=by simpa using hw
 subst hw
 exact ⟨el.symm,s1,s2,s3⟩
theorem ZkQ {ws : List Str} {lines : List (List Str)} {d : Zh8} (h : ZdV ws lines = some d) : rowT d.1 d.2.1 = Str.join Zbw ws /\ d.2.2.map Zmc = lines.map (Str.join Zbw) /\ (∀ n ∈ d.2.1, Sm n) /\ ∀ e ∈ d.2.2, EdOk e := by
  unfold ZdV at h
  cases ws with
  | nil => cases h
  | cons w ws =>
    cases ek : deedT.lookup w with
    | none => simp only [ek] at h; cases h
    | some ks =>
      simp only [ek] at h
      cases en : Zbm (ks.countP (· == Zbs)) (w :: ws) with
      | none => simp only [en] at h; cases h
      | some ns =>
        simp only [en] at h
        split at h
        · obtain ⟨es, ee, rfl⟩ := Option.map_eq_some_iff.mp h
          obtain ⟨w', e1, _, sm⟩ := ZdT en
          obtain ⟨q1, q2⟩ := Zcl (g := Str.join Zbw) (k := Zmc) (ok := EdOk) (fun a _ b e => ZkO e) ee
          cases e1
          exact ⟨rfl, q1, sm, q2⟩
        · cases h
theorem ZiQ {g0 : List Str} {rest : List (List Str)} {st : ZaO} (hw : g0.head? = some ZaL) (h : Zbv (g0 :: rest) = some st) : Za2 st = (g0 :: rest).map (Str.join Zbw) /\ Sm st.1 /\ (∀ f ∈ st.2.1, Zi9 f) /\ (∀ n ∈ st.2.2.2.1, Sm n) /\ ∀ e ∈ st.2.2.2.2, EdOk e := by
  unfold Zbv at h
  cases en : Zbm 1 g0 with
  | none => simp only [en] at h; cases h
  | some ns =>
    simp only [en] at h
    obtain ⟨w, e1, hl, sm⟩ := ZdT en
    obtain ⟨a, rfl⟩ : ∃ a, ns = [a] := by
      rcases ns with _ | ⟨a, _ | ⟨b, r⟩⟩
      · cases hl
      · exact ⟨a, rfl⟩
      · simp at hl
    rw [e1] at hw
    have hw : w = ZaL := by simpa using hw
    subst hw
    have er := takeWhile_append_dropWhile (p := ZaT) (l := rest)
    cases ed : rest.dropWhile ZaT with
    | nil => rw [ed] at h; cases h
    | cons dw lines =>
      rw [ed] at h er
      obtain ⟨ps, d, f1, f2, rfl⟩ := Zc8 h
      obtain ⟨p1, p2⟩ := Zcl (g := Str.join Zbw) (k := ZkH) (ok := Zi9) (fun a ha b e => Zi0 (by
        have := all_takeWhile (p := ZaT) (l := rest)
        exact all_eq_true.mp this a ha) e) f1
      obtain ⟨d1, d2, d3, d4⟩ := ZkQ f2
      refine ⟨?_, sm a mem_cons_self, p2, d3, d4⟩
      show rowT ZaL [a] :: (ps.map ZkH ++ (rowT d.1 d.2.1 :: d.2.2.map Zmc)) = _
      rw [<- er, map_cons, map_append, map_cons, p1, d1, d2, e1]
      rfl
noncomputable def G0 (g:List (List Str)):Prop:=∃ g0 r,g=g0::r/\g0.head?=some ZaL
theorem ZfB : ∀ {lines : List Str} {acc gs : List (List (List Str))}, lines.foldlM ZcS acc = some gs -> (∀ g ∈ acc, G0 g) -> gs.flatten.map (Str.join Zbw) = acc.flatten.map (Str.join Zbw) ++ lines /\ ∀ g ∈ gs, G0 g
  | [], acc, gs, h, ha => by
    cases h
    exact ⟨(append_nil _).symm, ha⟩
  | line :: lines, acc, gs, h, ha => by
    rw [foldlM_cons] at h
    cases el : ZcS acc line with
    | none => rw [el] at h; cases h
    | some acc' =>
      rw [el] at h
      have h : lines.foldlM ZcS acc' = some gs := h
      have jl := StrLaws.join_split line Zbw
      have key : acc'.flatten.map (Str.join Zbw) = acc.flatten.map (Str.join Zbw) ++ [line] /\ ∀ g ∈ acc', G0 g := by
        unfold ZcS ZdA at el
        split at el
        · next hw =>
          cases el
          refine ⟨?_, fun g hg => ?_⟩
          · rw [flatten_append, map_append, flatten_singleton, map_singleton, jl]
          · rcases mem_append.mp hg with hg | hg
            · exact ha g hg
            · rw [mem_singleton.mp hg]
              exact ⟨_, _, rfl, hw⟩
        · split at el
          · cases el
          · next ne =>
            cases el
            obtain ⟨acc0, g, rfl⟩ : ∃ a d, acc = a ++ [d] := ⟨_, _, (dropLast_concat_getLast ne).symm⟩
            rw [ZfK]
            refine ⟨?_, fun g' hg' => ?_⟩
            · simp only [flatten_append, flatten_singleton, map_append, map_cons, map_nil, append_assoc, jl]
            · rcases mem_append.mp hg' with hg' | hg'
              · exact ha g' (mem_append_left _ hg')
              · rw [mem_singleton.mp hg']
                obtain ⟨g0, r, rfl, e⟩ := ha g (mem_append_right _ mem_cons_self)
                exact ⟨g0, _, rfl, e⟩
      obtain ⟨k1, k2⟩ := ZfB h key.2
      exact ⟨by rw [k1, key.1, append_assoc]; rfl, k2⟩
theorem Zc5 (l:List ZaO):ZfO l=Str.join feed (l.map Za2).flatten:=by
 unfold ZfO
 rw [<-Zhc feed (ls:=l.map Za2) (fun x hx=>by
  obtain ⟨st,_,rfl⟩:=mem_map.mp hx
  exact cons_ne_nil _ _),map_map]
 rfl
theorem Zkq {z:Str} {sts:List ZaO} (h:ZdC z=some sts):ZfO sts=z/\∀ st∈sts,Sm st.1/\(∀ f∈st.2.1,Zi9 f)/\(∀ n∈st.2.2.2.1,Sm n)/\∀ e∈st.2.2.2.2,EdOk e:=by
 unfold ZdC at h
 obtain ⟨gs,hg,h⟩:=Option.bind_eq_some_iff.mp h
 obtain ⟨k1,k2⟩:=ZfB hg (fun d hd=>by cases hd)
 obtain ⟨q1,q2⟩:=Zcl (g:=List.map (Str.join Zbw)) (k:=Za2) (ok:=fun st=>Sm st.1/\(∀ f∈st.2.1,Zi9 f)/\(∀ n∈st.2.2.2.1,Sm n)/\∀ e∈st.2.2.2.2,EdOk e) (fun g hg' st e=>by
  obtain ⟨g0,r,rfl,e0⟩:=k2 g hg'
  exact ZiQ e0 e) h
 refine ⟨?_,q2⟩
 rw [Zc5,q1,<- map_flatten,k1]
 exact StrLaws.join_split z feed
end L2
end
section
namespace L2
open PySem PySem.Spec PyProof.Rows PySem.Builtin PySem.Builtin.Str PySem.NumText
theorem Zke {c:Nat} (n:Int) (h:c≠45/\(c < 48\/57 < c)):c∉cs (numS n):=fun z=>by
 have:=Zej n _ z
 lia
theorem ZnR {c:Nat} (q:Int×Int) (h:c≠45/\(c < 48\/57 < c)) (h2:c≠58):c∉cs (Zei q):=by
 unfold Zei
 rw [Za8,Za8,Zdt]
 intro z
 rcases mem_append.mp z with z|z
 ·rcases mem_append.mp z with z|z
  ·exact Zke _ h z
  ·exact h2 (mem_singleton.mp z)
 ·exact Zke _ h z
noncomputable def Wd (p:Str):Prop:=32∉cs p/\10∉cs p
theorem Zjb (n:Int):Wd (numS n):=ZlV n
theorem ZmZ (f:Zbj):Wd (fT f):=by
 have key:∀ c,c≠45/\(c < 48\/57 < c)->c≠58->c≠59->c∉cs (fT f):=fun c h h2 h3=>by
  unfold fT
  rw [ZdE,Zbg]
  refine ZhR h3 fun p hp=>?_
  obtain ⟨q,hq,rfl⟩:=mem_map.mp hp
  rcases mem_cons.mp hq with rfl|hq
  ·exact Zke _ h
  ·obtain ⟨r,_,rfl⟩:=mem_map.mp hq
   exact ZnR _ h h2
 exact ⟨key 32 (by decide) (by decide) (by decide),key 10 (by decide) (by decide) (by decide)⟩
noncomputable def WLn (ws:List Str):Prop:=ws≠[]/\∀ p∈ws,Wd p
theorem WLn.free {ws:List Str} (h:WLn ws):10∉cs (Str.join Zbw ws):=by
 rw [Zcd,Zbg]
 refine ZhR (by decide) fun p hp=>?_
 obtain ⟨q,hq,rfl⟩:=mem_map.mp hp
 exact (h.2 q hq).2
noncomputable def lnG (w:Str) (a b:Int) (fs:List Zbj):List Str:=w::numS a::numS b::fs.map fT
theorem ZmL {w:Str} (hw:Wd w) (a b:Int) (fs:List Zbj):WLn (lnG w a b fs):=⟨cons_ne_nil _ _,fun p hp=>by
 rcases mem_cons.mp hp with rfl|hp
 ·exact hw
 ·rcases mem_cons.mp hp with rfl|hp
  ·exact Zjb _
  ·rcases mem_cons.mp hp with rfl|hp
   ·exact Zjb _
   ·obtain ⟨f,_,rfl⟩:=mem_map.mp hp
    exact ZmZ f⟩
theorem Zmy {w:Str} (hw:Wd w) (ns:List Int):WLn (w::ns.map numS):=⟨cons_ne_nil _ _,fun p hp=>by
 rcases mem_cons.mp hp with rfl|hp
 ·exact hw
 ·obtain ⟨f,_,rfl⟩:=mem_map.mp hp
  exact Zjb f⟩
noncomputable def Zlc (d:Zh8):Prop:=∃ ks,deedT.lookup d.1=some ks/\d.2.1.length=ks.countP (· == Zbs)/\d.2.2.length=ks.countP (· == ZaY)
theorem ZkP {w : Str} {ks : List Str} (h : deedT.lookup w = some ks) : Wd w /\ w ≠ ZaL /\ w ≠ ZaH := by
  have hk : ∀ q ∈ deedT, (32 ∉ cs q.1 /\ 10 ∉ cs q.1) /\ q.1 ≠ ZaL /\ q.1 ≠ ZaH := by decide +kernel
  have : ∀ (l : List (Str × List Str)), l.lookup w = some ks -> (w, ks) ∈ l := by
    intro l
    induction l with
    | nil => intro h; cases h
    | cons q l ih =>
      intro h
      obtain ⟨a, b⟩ := q
      rw [lookup_cons] at h
      split at h
      · next e => cases h; rw [beq_iff_eq.mp e]; exact mem_cons_self
      · exact mem_cons_of_mem _ (ih h)
  exact hk _ (this _ h)
structure WOk (st:ZaO):Prop where
 many:Sm st.1
 fr:∀ f∈st.2.1,Zi9 f
 nums:∀ n∈st.2.2.2.1,Sm n
 eds:∀ e∈st.2.2.2.2,EdOk e
 deed:Zlc st.2.2
noncomputable def Zjq (st:ZaO):List (List Str):=(ZaL::[st.1].map numS)::(st.2.1.map (fun f=>lnG ZaH f.1 f.2.1 f.2.2)++((st.2.2.1::st.2.2.2.1.map numS)::st.2.2.2.2.map fun e=>lnG ZaY e.1 e.2.2 e.2.1))
theorem Zid (st:ZaO):Za2 st=(Zjq st).map (Str.join Zbw):=by
 unfold Za2 Zjq
 simp only [map_cons,map_append,map_map]
 congr 1
 congr 1
 ·exact map_congr_left fun f _=>Zb6 _ _ _ _
 ·congr 1
  exact map_congr_left fun f _=>Zb6 _ _ _ _
theorem Zjp {st:ZaO} (h:WOk st):∀ ws∈Zjq st,WLn ws:=by
 obtain ⟨ks,hk,_⟩:=h.deed
 intro ws hw
 rcases mem_cons.mp hw with rfl|hw
 ·exact Zmy (by unfold Wd;decide) _
 ·rcases mem_append.mp hw with hw|hw
  ·obtain ⟨f,_,rfl⟩:=mem_map.mp hw
   exact ZmL (by unfold Wd;decide) _ _ _
  ·rcases mem_cons.mp hw with rfl|hw
   ·exact Zmy (ZkP hk).1 _
   ·obtain ⟨f,_,rfl⟩:=mem_map.mp hw
    exact ZmL (by unfold Wd;decide) _ _ _
end L2
end
section
namespace L2
open PySem PySem.Spec PyProof.Rows
section
variable {X:Cx} {pins:List (Addr×Obj)} {σ:St} {H:Hp} {s:Shared} {A:Around} {Q:Value->Shared->Prop} {E:Value->Shared->Prop} {b:Bool}
theorem ZiZ {x : V} {u t : Value} {tp : Addr} {Ts : List V} {its : List Value} (I : Inv X pins σ H s) (rx : RelV x u) (ty : TyOf X.K H x t) (htp : H tp = some (.tup Ts)) (hv : ∀ us, Vals Ts us -> us = its) (e : PySem.W.kitAny X.K t its = some b) (h : ∀ tk, Q (.bool b) { s with toks := tk }) :
    wpAny (model X.prog X.w) A (call (.builtin "isinstance") [u, .ref tp]) Q E s := by
  obtain ⟨_, us, hus, op⟩ := (show ObjOk X.prog X.w H s.heap tp (.tup Ts) from I.hok tp _ htp)
  obtain ⟨o, h1, h2, h3⟩ := op
  obtain rfl := hv us hus
  have hg : ∃ dd n sl, s.heap.get? tp = some ⟨.type "tuple", dd, .seq us.toArray n, sl⟩ := by
    obtain ⟨n, h3⟩ := h3
    obtain ⟨c, dd, da, sl⟩ := o
    obtain rfl : c = .type "tuple" := h2
    obtain rfl : da = .seq us.toArray n := h3
    exact ⟨dd, n, sl, h1⟩
  obtain ⟨dd, n, sl, hg⟩ := hg
  cases ty with
  | non => cases (show u = Value.none from rx); exact PySem.W.kia_tup PySem.W.kitx_none I.kIn True.intro hg e (fun z => nomatch z) h
  | bl y => cases (show u = Value.bool y from rx); exact PySem.W.kia_tup PySem.W.kitx_bool I.kIn True.intro hg e (fun z => nomatch z) h
  | int i => obtain ⟨t, q⟩ := (show ∃ t, u = Value.int i t from rx); cases q; exact PySem.W.kia_tup PySem.W.kitx_int I.kIn True.intro hg e (fun z => nomatch z) h
  | str y => obtain ⟨t, q⟩ := (show ∃ t, u = Value.str y t from rx); cases q; exact PySem.W.kia_tup PySem.W.kitx_str I.kIn True.intro hg e (fun z => nomatch z) h
  | flt y => obtain ⟨t, q⟩ := (show ∃ t, u = Value.float y t from rx); cases q; exact PySem.W.kia_tup PySem.W.kitx_float I.kIn True.intro hg e (fun z => nomatch z) h
  | @lst a xs ea =>
    cases (show u = Value.ref a from rx)
    obtain ⟨_, _, n, _, h1⟩ := (show ObjOk X.prog X.w H s.heap a (.lst xs) from I.hok a _ ea)
    exact PySem.W.kia_tup PySem.W.kitx_list I.kIn ⟨_, h1, rfl⟩ hg e (fun z => nomatch z) h
  | @frz a ob xs ea =>
    cases (show u = Value.ref a from rx)
    obtain ⟨_, _, _, n, _, h1⟩ := (show ObjOk X.prog X.w H s.heap a (.frz ob (.lst xs)) from I.hok a _ ea)
    exact PySem.W.kia_tup PySem.W.kitx_list I.kIn ⟨_, h1, rfl⟩ hg e (fun z => nomatch z) h
  | @tup a xs ea =>
    cases (show u = Value.ref a from rx)
    obtain ⟨_, _, _, p⟩ := (show ObjOk X.prog X.w H s.heap a (.tup xs) from I.hok a _ ea)
    obtain ⟨o, h1, h2, _⟩ := p
    exact PySem.W.kia_tup PySem.W.kitx_tuple I.kIn ⟨o, h1, h2⟩ hg e (fun z => nomatch z) h
  | @dK a kvs ea =>
    cases (show u = Value.ref a from rx)
    obtain ⟨_, _, vs, _, p⟩ := (show ObjOk X.prog X.w H s.heap a (.dK kvs) from I.hok a _ ea)
    obtain ⟨o, es, ep, h1, h2, _⟩ := p
    exact PySem.W.kia_tup PySem.W.kitx_dict I.kIn ⟨o, h1, h2.1⟩ hg e (fun z => nomatch z) h
  | @dT a kvs ea =>
    cases (show u = Value.ref a from rx)
    obtain ⟨_, _, xs, _, o, es, ep, h1, h2, _⟩ := (show ObjOk X.prog X.w H s.heap a (.dT kvs) from I.hok a _ ea)
    exact PySem.W.kia_tup PySem.W.kitx_dict I.kIn ⟨o, h1, h2.1⟩ hg e (fun z => nomatch z) h
  | @ins a C dx fs ea cl ha hn htk hm =>
    cases (show u = Value.ref a from rx)
    obtain ⟨mA, O, _⟩ := ZkE I.hok ea
    obtain ⟨od, J, _⟩ := O.look
    exact PySem.W.kia_tup (PySem.W.kitx_own (cl.get _) cl.hd ha hn htk hm) I.kIn J hg e (fun z => nomatch z) h
end
theorem Zn3 {K:PySem.W.Frag} {t:String} (h:t∈["int","bool","str","tuple","list","dict","NoneType"]):PySem.W.kitAny K (.type t) [.type "list",.type "tuple"]=some (t == "list" || t == "tuple"):=by
 simp only [mem_cons,mem_nil_iff,or_false] at h
 rcases h with rfl|rfl|rfl|rfl|rfl|rfl|rfl <;> with_unfolding_all rfl
noncomputable def ZnC:List V->Hp->VK->Prop:=fun xs H Q=>∃ x tp t,xs=[x,.ref tp]/\tyN H x=some t/\H tp=some (.tup [.ty "list",.ty "tuple"])/\Q (.bl (t == "list" || t == "tuple")) H
theorem Zhn {X : Cx} : Zc9 X (.builtin "isinstance") ZnC := by
  intro pins s σ H xs us Q I r h
  obtain ⟨x, tp, t, rfl, ht, hT, q⟩ := h
  cases r with
  | cons r1 r2 =>
    cases r2 with
    | cons r3 r4 =>
      cases r4
      cases r3
      obtain ⟨ty, hm⟩ := Zmt (K := X.K) ht
      refine ZiZ (its := [.type "list", .type "tuple"]) I r1 ty hT (fun us hu => ?_) (Zn3 hm) fun tk => ⟨.bl _, H, I.tok _, rfl, q⟩
      cases hu with
      | cons a b =>
        cases b with
        | cons c d =>
          cases d
          cases a
          cases c
          rfl
theorem ZhG {H:Hp} {x:V} {tp:Addr} {t:String} {Q:VK} (ht:tyN H x=some t) (hT:H tp=some (.tup [.ty "list",.ty "tuple"])) (q:Q (.bl (t == "list" || t == "tuple")) H):ZnC [x,.ref tp] H Q:=⟨x,tp,t,rfl,ht,hT,q⟩
theorem Zil {H:Hp} {x:V} {tp:Addr} {t:String} {Q:VK} (ht:tyN H x=some t) (hT:H tp=some (.tup [.ty "list",.ty "tuple"])) (e:(t == "list" || t == "tuple")=true) (q:Q (.bl true) H):ZnC [x,.ref tp] H Q:=ZhG ht hT (by rw [e];exact q)
end L2
end
section
namespace L2
open PySem
section
variable {X:Cx}
noncomputable def rInN:R2:=fun x y H Q=>∃ p xs,x=.non/\y=.ref p/\H p=some (.lst xs)/\(∀ v∈xs,v=.non\/∃ a ys,v=.ref a/\H a=some (.tup ys))/\Q (.bl (xs.any fun v=>decide (v=.non))) H
noncomputable def Zgy:Value->Bool
 | .none=>true
 | _=>false
theorem Zmm {H : Hp} {xs : List V} {us : List Value} (r : Vals xs us) (h : ∀ v ∈ xs, v = .non \/ ∃ a ys, v = .ref a /\ H a = some (.tup ys)) : us.any Zgy = xs.any fun v => decide (v = .non) := by
  induction r with
  | nil => rfl
  | cons r _ ih =>
    rw [any_cons, any_cons, ih fun v hv => h v (mem_cons_of_mem _ hv)]
    rcases h _ mem_cons_self with rfl | ⟨a, ys, rfl, _⟩
    · cases r; rfl
    · cases r; rfl
theorem op_inN (hu:X.A.units+64 < cLine):OpR X (compareOp .In) rInN:=by
 rintro pins s σ H x y v u Q I rx ry ⟨p,xs,rfl,rfl,hp,hall,q⟩
 cases rx;cases ry
 obtain ⟨its,r,pl,hz⟩:=I.list (SqL.of hp)
 refine SeqAt.in_listAt Zgy pl.isList (fun w hw=>?_) ⟨.bl _,H,I,rfl,?_⟩
 ·have hw:w∈its:=by simpa using hw
  obtain ⟨j,hj,e⟩:=mem_iff_getElem.mp hw
  have hl:=r.length
  have e1:xs[j]?=some (xs[j]'(by lia)):=getElem?_eq_getElem _
  obtain ⟨u1,z1,w1⟩:=r.get e1
  rw [getElem?_eq_getElem hj] at z1
  cases z1
  rw [e] at w1
  rcases hall _ (getElem_mem (show j < xs.length by lia)) with z|⟨a,ys,z,ha⟩
  ·rw [z] at w1;cases w1;exact SeqAt.EqAt.same _
  ·rw [z] at w1;cases w1
   obtain ⟨its',vx,ht⟩:=I.isTup ha
   exact SeqAt.EqAt.tuple_none ht (by show X.A.units+1 < cLine;lia)
 ·rw [show its.toArray.any Zgy=its.any Zgy by simp,Zmm r hall]
  exact q
theorem rd_inN {H:Hp} {p:Addr} {xs:List V} {Q:VK} (hp:H p=some (.lst xs)) (h:∀ v∈xs,v=.non\/∃ a ys,v=.ref a/\H a=some (.tup ys)) (q:Q (.bl (xs.any fun v=>decide (v=.non))) H):rInN .non (.ref p) H Q:=⟨p,xs,rfl,rfl,hp,h,q⟩
end
end L2
end
section
open PySem L2
local macro_rules | `(tactic| walk_at"rd1") => `(tactic| (first | ((with_reducible refine' Znl ?e ?_); (case e => exact rfl)) | ((with_reducible refine' Znk ?e ?f ?_); (case e => exact rfl); (case f => exact rfl)) | ((with_reducible refine' rd_opV ?e ?_); (case e => exact rfl)) | with_reducible refine rd_opC ?_ | ((with_reducible refine' ZjM ?e ?_); (case e => exact rfl)) | with_reducible refine ZjN ?_ | ((with_reducible refine' ZlA ?e ?_); (case e => exact rfl)) | with_reducible refine ZlB ?_ | ((with_reducible refine Zne ?_); intro D1) | ((with_reducible refine Znd ?_); intro D1) | with_reducible refine rd_ifT ?_ | ((with_reducible refine' Znf ?e ?_); (case e => exact rfl)) | (with_reducible first | refine Zng ?_ | refine Znx ?_ | refine Zno ?_ | refine Znw ?_ | refine Znn ?_) | ((with_reducible refine' rd_var ?e ?_); (case e => exact rfl)) | (with_reducible first | refine rd_c ?_ | refine rd_op ?_ | refine rd_un ?_) | ((with_reducible refine Znc ?_); intro D1) | with_reducible refine Zio ?_ | ((with_reducible refine ZjK ?_); intro σ1) | (with_reducible first | refine rd_ret ?_ | refine Zny ?_ | refine Zfk ?_ | refine rd_if ?_ | refine Znb ?_ | refine rd_tb ?_ | refine rd_and ?_ | refine rd_or ?_ | refine rd_not ?_ | refine Zna ?_ | refine ZnB ?_ | refine rd_orV ?_ | refine rd_notV ?_ | refine rd_ifE ?_ | refine ZlC ?_ | refine rd_nil ?_ | refine Znz ?_ | refine rd_cb ?_) | ((with_reducible refine ZlD ?_); intro Q1) | (with_reducible first | refine ZjP ?_ | refine rd_U ?_ | refine ZjL ?_ | refine ZmB ?_ | refine ZmC ?_ | refine ZmA ?_ | refine rd_eqB ?_ | refine rd_neB ?_ | refine Zgq ?_ | refine rd_int ?_ | refine rd_tup ?_ | refine rd_lst ?_ | refine Znu ?_ | refine Zlp ?_ | refine ZjG ?_ | refine Znj ?_ | refine rd_bm ?_ | refine rd_bm0 ?_ | refine ZnA ?_ | refine Znp ?_ | refine Zlw ?_ | refine Znr ?_ | refine Zlx ?_ | refine Znv ?_ | refine rd_for ?_ | refine rd_abs ?_ | refine rd_max ?_ | refine rd_min ?_ | refine Zns ?_ | refine rd_dput ?_ | refine Zlz ?_ | refine rd_dget ?_ | refine rd_fld ?_ | refine rd_sfld ?_ | refine rd_meth ?_ | refine rd_make ?_ | refine rd_isN ?_ | refine Znm ?_ | refine rd_izip ?_ | refine rd_izipT ?_ | refine Zls ?_ | refine Zni ?_ | refine rd_dget1 ?_ | refine rd_cdget ?_ | refine ZjO ?_ | refine ZjE ?_ | refine rd_iany ?_ | refine rd_fmt ?_ | refine Zlr ?_ | refine Zm9 ?_ | refine iteNT ?_ | refine iteNF ?_ | refine iteF ?_ | refine iteT ?_)))
local macro_rules | `(tactic| walk_at"rd") => `(tactic| (repeat walk_at"rd1"))
local macro_rules | `(tactic| walk_at"mk") => `(tactic| refine ⟨ZhM rfl, ?_⟩)
section
namespace My
open PySem L2
noncomputable def top (i:Nat):Stmt:=PySem.Challenge.pw_midlanes_k72_lane_texts_that_are_none.main.body.getD i (.Pass ⟨0,0,0,0⟩)
noncomputable abbrev ZcK:Stmt:=top 8
noncomputable abbrev Zde:Stmt:=top 11
noncomputable abbrev ZcL:Stmt:=top 12
noncomputable abbrev ZcM:Stmt:=top 13
noncomputable abbrev Zdh:Stmt:=top 14
noncomputable abbrev Zdg:Stmt:=top 15
noncomputable abbrev ZcN:Stmt:=top 16
noncomputable abbrev Zdf:Stmt:=top 17
noncomputable abbrev Zdd:Stmt:=top 18
noncomputable abbrev Zb8:Stmt:=top 19
noncomputable abbrev Zcq:Stmt:=top 20
noncomputable abbrev ZdQ:Stmt:=top 22
noncomputable abbrev Zdj:Stmt:=top 23
noncomputable abbrev Zcs:Stmt:=top 24
noncomputable abbrev ZbH:Stmt:=top 25
noncomputable abbrev ZbO:Stmt:=top 26
noncomputable abbrev ZbN:Stmt:=top 27
noncomputable abbrev Zbp:Stmt:=top 28
noncomputable abbrev Zbo:Stmt:=top 29
noncomputable abbrev ZbW:Stmt:=top 30
noncomputable abbrev ZdP:Stmt:=top 31
noncomputable abbrev ZbQ:Stmt:=top 32
noncomputable abbrev ZbI:Stmt:=top 33
noncomputable abbrev ZbP:Stmt:=top 34
noncomputable abbrev Zcr:Stmt:=top 35
noncomputable abbrev ZcO:Stmt:=top 36
noncomputable abbrev Zcb:Stmt:=top 37
noncomputable abbrev Zb9:Stmt:=top 38
noncomputable abbrev Zca:Stmt:=top 39
noncomputable abbrev Zdi:Stmt:=top 40
noncomputable abbrev Zcf:Stmt:=top 41
noncomputable abbrev Zlm:Stmt:=top 42
structure Blt (mg:Str->Option Value):Prop where
 b_ValueError:mg "ValueError"=none
 b_abs:mg "abs"=none
 b_all:mg "all"=none
 b_bool:mg "bool"=none
 b_int:mg "int"=none
 b_isinstance:mg "isinstance"=none
 b_len:mg "len"=none
 b_list:mg "list"=none
 b_range:mg "range"=none
 b_str:mg "str"=none
 b_tuple:mg "tuple"=none
structure Glb (K:PySem.W.Frag) (w:World) (mg:Str->Option Value):Prop where
 c_DEED_PARTS:IsCDN K w mg "DEED_PARTS" deedT
 c_FIGURES:∃ t,mg "FIGURES"=some (.str "0123456789" t)
 c_MOST_FIGURES:∃ t,mg "MOST_FIGURES"=some (.int 300 t)
structure ExH (K:PySem.W.Frag) (mg:Str->Option Value) (Zah ZaA Zav ZaU:Addr):Prop where
 m_NoText:mg "NoText"=some (.ref Zah)
 exc:ExcC K Zah
 m_LaneError:mg "LaneError"=some (.ref ZaA)
 m_NotFormed:mg "NotFormed"=some (.ref Zav)
 m_Faulty:mg "Faulty"=some (.ref ZaU)
 x_LaneError:PySem.W.exmOne K (.ref Zah) (.ref ZaA)=some true
 k:ExcK K Zah
 kV:PySem.W.kitCls K (.ref Zah) (.type "ValueError")=some true
 kN:PySem.W.kitCls K (.ref Zah) (.ref Zav)=some false
 kF:PySem.W.kitCls K (.ref Zah) (.ref ZaU)=some false
 nN:(Value.ref Zah == Value.ref Zav)=false
 nF:(Value.ref Zah == Value.ref ZaU)=false
theorem ZgR:bootBuiltins "ValueError"=some (.type "ValueError"):=by decide +kernel
section
variable {P:Program} {w:World} {K:PySem.W.Frag} {mg:Str->Option Value} {base:Heap}
theorem sc__law_draw:FnScope ["bag","many","found"] ["bag","many"] (Zam Zdj):=⟨rfl,rfl,rfl,by decide +kernel,rfl,by decide +kernel,by decide +kernel⟩
theorem Zh3 (B:Blt mg) (T__law_draw:TopFn K mg "_law_draw" Zdj ["bag","many"]):Callee P w K mg base "_law_draw" 1 ["bag","many"] ZeB:=by
 refine T__law_draw.ok2 sc__law_draw fun f cdv A outer s H v1 v2 Q E hr h=>?_
 have nd:=sc__law_draw.nd
 obtain ⟨b,l,n,rfl,rfl,⟨hn,hn2⟩,Bg,k⟩:=h
 obtain ⟨xs,i,m,st,c,hb,hl,hi,⟨hm0,hm1⟩,⟨hs0,hs1⟩,hxs,hlen⟩:=Bg.ex
 have nbl:l≠b:=ne_of hl hb (by
  intro z
  injection z with z
  cases xs <;> simp [bagL] at z)
 have hl2:∀ o,upd H b o l=some (.lst (xs.map V.int)):=fun o=>by rw [Zat nbl];exact hl
 refine' Zbl [some (.ref b),some (.int n),none] rfl ?hb ?hg
 case' hb=>refine' Zae ?bab ?bac
 case' bab=>refine' Za1 ?bad ?bae ?baf
 case' bad=>refine' PW.pt ?bag
 case' bag=>refine' ZcP ?bah ?bai
 case bah=>exact (Zal Zbc (Zao (k_ix (K:=K) rfl) (pv 0) Zaa (fun _ _=>rfl)) Zaa (Zas _))
 case' bai=>refine' ZbX ?baj
 case' baj=>refine' Zal ?bak ?bal ?bam ?ban
 case bak=>exact ZlU
 case bal=>exact (Zao (k_ix (K:=K) rfl) (pv 0) Zaa (fun _ _=>rfl))
 case bam=>exact (Zaw (Zcu (K:=K) rfl) (by rfl) B.b_len ZbA (Zap (Zao (k_ix (K:=K) rfl) (pv 0) Zaa (fun _ _=>rfl)) Zab))
 case ban=>exact (Zas _)
 case' bae=>refine' Zae ?bao ?bap
 case' bao=>refine' ZcQ ?baq ?bar
 case' baq=>refine' Zao ?bas ?bat ?bau ?bav
 case bas=>exact (k_ix (K:=K) rfl)
 case bat=>exact (Zao (k_ix (K:=K) rfl) (pv 0) Zaa (fun _ _=>rfl))
 case bau=>exact (Zao (k_ix (K:=K) rfl) (pv 0) Zaa (fun _ _=>rfl))
 case bav=>exact (fun _ _=>rfl)
 case bar=>exact (Zc3 (pv 0) Zaa ZbG)
 case bap=>exact (Zag (ZcQ (Zar ZbE (Zao (k_ix (K:=K) rfl) (pv 0) Zaa (fun _ _=>rfl)) Zaa) (Zc3 (pv 0) Zaa ZbG)))
 case' baf=>refine' Zag ?baw
 case' baw=>refine' Za1 ?bax ?bay ?baz
 case bax=>exact (Zal Zbc (Zao (k_ix (K:=K) rfl) (pv 0) Zaa (fun _ _=>rfl)) Zaa (Zas _))
 case' bay=>refine' Zae ?bba ?bbb
 case bba=>exact (ZcQ (Zar ZbE (Zao (k_ix (K:=K) rfl) (pv 0) Zaa (fun _ _=>rfl)) Zaa) (Zc3 (pv 0) Zaa ZbG))
 case' bbb=>refine' Zae ?bbc ?bbd
 case' bbc=>refine' ZcQ ?bbe ?bbf
 case' bbe=>refine' Zar ?bbg ?bbh ?bbi
 case bbg=>exact Zci
 case' bbh=>refine' Zar ?bbj ?bbk ?bbl
 case bbj=>exact ZbE
 case' bbk=>refine' Zar ?bbm ?bbn ?bbo
 case bbm=>exact ZbE
 case' bbn=>refine' Zar ?bbp ?bbq ?bbr
 case bbp=>exact ZbE
 case bbq=>exact (Zar Zis (Zao (k_ix (K:=K) rfl) (pv 0) Zaa (fun _ _=>rfl)) Zaa)
 case bbr=>exact (Zar Zka Zaa (Zao (k_ix (K:=K) rfl) (pv 0) Zaa (fun _ _=>rfl)))
 case bbo=>exact (Zar Zka Zaa (Zao (k_ix (K:=K) rfl) (pv 0) Zaa (fun _ _=>rfl)))
 case bbl=>exact Zaa
 case bbi=>exact Zaa
 case bbf=>exact (Zc3 (pv 0) Zaa ZbG)
 case bbd=>exact (Zag (ZaD (Zar Zci (Zar Zgt (Zao (k_ix (K:=K) rfl) (pv 0) Zaa (fun _ _=>rfl)) Zaa) (pv 1))))
 case baz=>exact Zaz
 case' bac=>refine' Zae ?bbs ?bbt
 case bbs=>exact (Zbr (i:=2) nd rfl (Or.inl rfl) (Zar Zci (Zao (k_ix (K:=K) rfl) (pv 0) Zaa (fun _ _=>rfl)) (pv 1)))
 case' bbt=>refine' Zae ?bbu ?bbv
 case bbu=>exact (ZcQ (Zar Zgt (Zao (k_ix (K:=K) rfl) (pv 0) Zaa (fun _ _=>rfl)) (pv 1)) (Zc3 (pv 0) Zaa ZbG))
 case bbv=>exact (Zag (ZaD (pv 2)))
 have fin:∀ (j:Nat) (m':Int),j<=xs.length->0<=m'->m'<=10 ^ 60->∀ H1,BSame b H H1->H1 b=some (.lst (bagL l j m' st c))->H1 l=some (.lst (xs.map V.int)) ->
   Q (.int (m' % n)) (upd H1 b (.lst (bagL l j (m' / n) st c))):=by
  intro j m' hj h0 h1 H1 bs hb1 hl1
  have hd0:0<=m' / n:=Int.ediv_nonneg h0 (Int.le_of_lt hn)
  have hd1:m' / n<=m':=Int.ediv_le_self _ h0
  refine k _ _ (Int.emod_nonneg _ (by lia)) (Int.emod_lt_of_pos _ hn) ⟨xs,j,m' / n,st,c,Zad,by rw [Zat nbl];exact hl1,hj,⟨hd0,by lia⟩,⟨hs0,hs1⟩,hxs,hlen⟩ (bs.trans BSame.wr)
 have tail:∀ (j:Nat) (m':Int) (σ2:St),σ2=[some (.ref b),some (.int n),none]->j<=xs.length->0<=m'->m'<=10 ^ 60->∀ H1,BSame b H H1->H1 b=some (.lst (bagL l j m' st c))->H1 l=some (.lst (xs.map V.int)) ->
   tSeq (tAsg (tOp (rI (fun _ j=>0 < j) fun i j=>.int (i % j)) (tOp (rIxA K) (tVar 0) (tC (.int 2))) (tVar 1)) (Zd2 2))
    (tSeq (tAsg (tOp (rI Zoq fun i j=>.int (i / j)) (tOp (rIxA K) (tVar 0) (tC (.int 2))) (tVar 1)) (gSub (tVar 0) (tC (.int 2)) ZjV)) (tRet (tVar 2))) { nx:=fun _ H'=>Q .non H',rt:=Q } σ2 H1:=by
  intro j m' σ2 e hj h0 h1 H1 bs hb1 hl1
  subst e
  walk_at"rd"
  refine Zaj (v:=.int m') hb1 rfl ?_
  walk_at"rd"
  refine rd_I hn ?_
  walk_at"rd"
  refine Zaj (v:=.int m') hb1 rfl ?_
  walk_at"rd"
  refine rd_I (ZgK hn (by lia)) ?_
  walk_at"rd"
  refine Zcy (k:=2) hb1 rfl ?_
  walk_at"rd"
  exact fin j m' hj h0 h1 H1 bs hb1 hl1
 walk_at"rd"
 refine Zaj (v:=.int m) hb rfl ?_
 walk_at"rd"
 refine ZaS (fun hm=>?_) (fun hm=>?_)
 ·walk_at"rd"
  refine Zaj (v:=.int i) hb rfl ?_
  walk_at"rd"
  refine Zaj (v:=.ref l) hb rfl ?_
  walk_at"rd"
  refine Zbf (SqL.of hl) ?_
  walk_at"rd"
  rw [length_map]
  refine ZaS (fun hi2=>?_) (fun hi2=>?_)
  ·walk_at"rd"
   refine Zaj (v:=.ref l) hb rfl ?_
   walk_at"rd"
   refine Zaj (v:=.int i) hb rfl ?_
   walk_at"rd"
   have hil:i < xs.length:=by lia
   have hxi:=hxs _ (getElem_mem hil)
   refine Zaj (v:=.int xs[i]) hl (Zan (n:=i) rfl (by rw [getElem?_map,getElem?_eq_getElem hil];rfl)) ?_
   walk_at"rd"
   refine Zcy (k:=2) hb rfl ?_
   walk_at"rd"
   refine Zaj (v:=.int i) Zad rfl ?_
   walk_at"rd"
   refine Zcy (k:=1) Zad rfl ?_
   exact tail (i+1) xs[i] _ rfl (by lia) hxi.1 hxi.2 _ (BSame.wr.trans BSame.wr) Zad (by rw [Zat nbl];exact hl2 _)
  ·walk_at"rd"
   refine Zaj (v:=.int m) hb rfl ?_
   walk_at"rd"
   refine Zc7 hm ?_
   walk_at"rd"
   refine Zaj (v:=.int c) hb rfl ?_
   walk_at"rd"
   refine Zcy (k:=4) hb rfl ?_
   walk_at"rd"
   refine Zaj (v:=.int st) Zad rfl ?_
   walk_at"rd"
   refine rd_I ⟨by decide,by decide,by lia⟩ ?_
   walk_at"rd"
   refine Zaj (v:=.int st) Zad rfl ?_
   walk_at"rd"
   refine rd_I (.inl ⟨by decide,by decide⟩) ?_
   walk_at"rd"
   refine Zaj (v:=.int (c+1)) Zad rfl ?_
   walk_at"rd"
   refine rd_I (.inl ⟨by decide,by decide⟩) ?_
   walk_at"rd"
   refine rd_I (by decide) ?_
   walk_at"rd"
   refine Zcy (k:=3) Zad rfl ?_
   walk_at"rd"
   generalize hst:(st ^ (3:Int).toNat+48271 * st+1013 * (c+1)+1) % 2147483647=st'
   have h0:0<=st':=by rw [<-hst];exact Int.emod_nonneg _ (by decide)
   have h1:st' < 2147483647:=by rw [<-hst];exact Int.emod_lt_of_pos _ (by decide)
   refine Zaj (v:=.int st') Zad rfl ?_
   walk_at"rd"
   refine rd_I (ZgK (by decide) (by decide +kernel)) ?_
   walk_at"rd"
   refine rd_I hn ?_
   refine k _ _ (Int.emod_nonneg _ (by lia)) (Int.emod_lt_of_pos _ hn) ⟨xs,i,m,st',c+1,Zad,by rw [Zat nbl];exact hl2 _,hi,⟨hm0,hm1⟩,⟨h0,h1⟩,hxs,hlen⟩ (BSame.wr.trans BSame.wr)
 ·walk_at"rd"
  refine Zaj (v:=.int m) hb rfl ?_
  walk_at"rd"
  refine Zco hm ?_
  exact tail i m _ rfl hi hm0 hm1 H (BSame.refl _ _) hb hl
theorem sc__law_bag:FnScope ["script","stir","cell"] ["script"] (Zam ZdQ):=⟨rfl,rfl,rfl,by decide +kernel,rfl,by decide +kernel,by decide +kernel⟩
theorem Zi8 (B:Blt mg) (T__law_bag:TopFn K mg "_law_bag" ZdQ ["script"]):Callee P w K mg base "_law_bag" 1 ["script"] (sp_bag K):=by
 refine T__law_bag.ok1 sc__law_bag fun f cdv A outer s H v1 Q E hr h=>?_
 have nd:=sc__law_bag.nd
 obtain ⟨a,ns,rfl,hS,hlen,k⟩:=h
 refine' Zbl [some (.ref a),none,none] rfl ?hb ?hg
 case' hb=>refine' Zae ?bab ?bac
 case bab=>exact (Zc2 (i:=1) nd rfl (Or.inl rfl) Zaa)
 case' bac=>refine' Zae ?bad ?bae
 case' bad=>refine' Zch ?baf ?bag ?bah ?bai ?baj
 case baf=>exact PassesOwn.never
 case bag=>exact rfl
 case bah=>exact (Za4 (K:=K) rfl (Zau (k_sl (K:=K) rfl) (pv 0) ZaG (ZaB Zaa)))
 case bai=>exact (ZaE (i:=2) nd rfl (Or.inl rfl))
 case' baj=>refine' Zag ?bak
 case' bak=>refine' Zbr (i:=1) ?bal ?bam ?ban ?bao
 case bal=>exact nd
 case bam=>exact rfl
 case ban=>exact (Or.inl rfl)
 case bao=>exact (Zar Zci (Zar ZbE (Zar ZbE (Zar Zka (pv 1) Zaa) (Zar Zci (pv 2) Zaa)) Zaa) Zaa)
 case' bae=>refine' Zag ?bap
 case' bap=>refine' ZaD ?baq
 case' baq=>refine' Zba ?bar
 case' bar=>refine' ZcR ?bas ?bat
 case' bas=>refine' ZdH (LN:=["cell"]) (FN:=[]) (fr:=[]) ?bau ?bav ?baw ?bax ?bay ?baz
 case bau=>exact rfl
 case bav=>exact (ZdO (by rfl))
 case baw=>exact (Za4 (K:=K) rfl (Zau (k_sl (K:=K) rfl) (pv 0) ZaG (ZaB Zaa)))
 case' bax=>intro cl C fp pins s H
 case bax=>exact (ZaE (i:=0) (show ((["cell"]:List Str)++([]:List Str)).Nodup by decide +kernel) rfl (Or.inl rfl))
 case' bay=>intro cl C fp pins s H
 case bay=>exact ZbY
 case' baz=>intro cl C fp pins s H
 case baz=>exact (Zar Zci (Zaw Zk3 (by rfl) B.b_abs bt_abs (Zac (pv 0) Zab)) (Zar Zis Zaa Zaa))
 case bat=>exact (Zaf Zaa (Zaf Zaa (Zac (pv 1) (Zaf Zaa Zab))))
 walk_at"rd"
 refine Zcx hS fun p hp=>?_
 obtain ⟨ms,em,hm⟩:=ZkU ns none (some 63)
 rw [em]
 refine Zb4 (SqL.of Zad) ?_
 have s0:=Same.new (o:=.lst (ms.map V.int)) hp
 generalize hH0:upd H p (HO.lst (ms.map V.int))=H0 at s0
 have hp0:H0 p=some (.lst (ms.map V.int)):=by rw [<-hH0];exact Zad
 refine ZgC (xs:=ms.map V.int) (fun i σ H1=>Ex2 fun st c2=>An4 (σ=[some (.ref a),some (.int st),c2]) (H1=H0) (0<=st) (st < 2147483647)) ⟨11,none,rfl,rfl,by decide,by decide⟩ (fun i σ H1 _ z_=>by obtain ⟨_,_,_,e,_⟩:=z_;rw [e];exact SqL.of hp0) ?_ ?_
 ·rintro i x σ H1 hx ⟨st,c2,rfl,rfl,h0,h1⟩
  obtain ⟨z,rfl,_⟩:=ZiC hx
  walk_at"rd"
  refine rd_I (.inr ⟨by decide,by decide⟩) ?_
  walk_at"rd"
  refine rd_I (by decide) ?_
  walk_at"rd"
  refine rd_I (by decide) ?_
  walk_at"rd"
  exact ⟨_,_,rfl,rfl,Int.emod_nonneg _ (by decide),Int.emod_lt_of_pos _ (by decide)⟩
 ·rintro σ H1 ⟨st,c2,rfl,rfl,h0,h1⟩
  walk_at"rd"
  refine Zcx (s0.seq hS) fun p2 hp2=>?_
  rw [em]
  refine Zb4 (SqL.of Zad) ?_
  have s2:=Same.new (o:=.lst (ms.map V.int)) hp2
  generalize hH2:upd H1 p2 (HO.lst (ms.map V.int))=H2 at s2
  have hp2':H2 p2=some (.lst (ms.map V.int)):=by rw [<-hH2];exact Zad
  refine Zds (xs:=ms.map V.int) (Ze6 (by rw [length_map];lia)) (fun i ys σ H3=>An3 (∃ x1,σ=[x1]) (H3=H2) (∃ zs:List Int,ys=zs.map V.int/\∀ z∈zs,0<=z/\z<=10 ^ 60)) ⟨⟨none,rfl⟩,rfl,[],rfl,fun _ h=>by cases h⟩ (fun i ys σ H3 _ z_=>by obtain ⟨_,e,_⟩:=z_;rw [e];exact SqL.of hp2') ?_ ?_
  ·rintro i x ys σ H3 hx hle hlt ⟨⟨x1,rfl⟩,rfl,zs,rfl,hz⟩
   obtain ⟨z,rfl,_⟩:=ZiC hx
   walk_at"rd"
   refine rd_I ZmW ?_
   refine rd_I (by decide +kernel) ?_
   rw [ten60]
   refine ⟨hlt,by simpa using hle,⟨_,rfl⟩,rfl,zs++[_],by rw [map_append];rfl,fun u hu=>?_⟩
   rcases mem_append.mp hu with hu|hu
   ·exact hz u hu
   ·obtain rfl:=mem_singleton.mp hu
    lia
  ·rintro ys σ H3 hyl ⟨⟨x1,rfl⟩,rfl,zs,rfl,hz⟩ l hl
   walk_at"rd"
   walk_at"mk";intro bb hbb
   have sA:=Same.new (o:=.lst (zs.map V.int)) hl
   have sB:=Same.new (o:=.lst [V.ref l,V.int 0,V.int 0,V.int st,V.int 0]) hbb
   have sall:=((s0.trans s2).trans sA).trans sB
   rw [length_map,length_map] at hyl
   exact k bb l _ (((s0.trans s2).trans sA).free hbb) sall ⟨zs,0,0,st,0,Zad,Zm3 Zad hbb,Nat.zero_le _,⟨by decide,by decide⟩,⟨h0,h1⟩,hz,by lia⟩
theorem ZlZ {c:TT} {ta tb:TE} {σ:St} {H:Hp} {Q:VK} (I:V->Prop) (hI:∀ v,I v->Q v H) (h:∀ N:VK,(∀ v,I v->N v H)->tIf c ta tb σ H N):tIf c ta tb σ H Q:=h Q hI
theorem ZaN {n:Nat} (h:n<=1000000):n<=PySem.sizeLine:=by rw [PySem.sizeLine_eq];lia
theorem Zef {H:Hp} {x:Str} {Q:VK} (h:x.length<=PySem.sizeLine) (q:Q (.int x.length) H):rLen K [.str x] H Q:=⟨_,_,rfl,⟨h,rfl⟩,q⟩
inductive Pr_read_whole (C:Addr) (x y:V) (H:Hp) (Q:VK) (E:XK):Prop
 | mk (z most) (_:x=.str z) (_:y=.int (most:Nat)) (_:most<=600) (_:z.length<=900000) (_:Zbd z) (_:∀ n H',ZaF most z=some n->Same H H'->Q (.int n) H') (_:∀ H',ZaF most z=none->Same H H'->E (.ref C) none H'):Pr_read_whole C x y H Q E
noncomputable def Zd8 (C:Addr):Sp:=spX2 (Pr_read_whole C)
theorem sc_read_whole:FnScope ["text","most","figures"] ["text","most"] (Zam ZcK):=⟨rfl,rfl,rfl,by decide +kernel,rfl,by decide +kernel,by decide +kernel⟩
theorem Zhp {Zah ZaA Zav ZaU : Addr} (B : Blt mg) (G : Glb K w mg) (HX : ExH K mg Zah ZaA Zav ZaU) (T_read_whole : TopFn K mg "read_whole" ZcK ["text", "most"]) : CalleeX P w K mg base Zah "read_whole" 1 ["text", "most"] (Zd8 Zah) := by
  refine T_read_whole.okX2 sc_read_whole fun f cdv A outer s H v1 v2 Q E hr h => ?_
  have nd := sc_read_whole.nd
  obtain ⟨z, most, rfl, rfl, hm, hz, az, k, no⟩ := h
  have hl := Za0 z
  refine' Zb2 [some (.str z), some (.int (most : Nat)), none] rfl ?hb ?hg
  case' hb => refine' Zae ?bab ?bac
  case' bab => refine' Zc2 (i := 2) ?bad ?bae ?baf ?bag
  case bad => exact nd
  case bae => exact rfl
  case baf => exact (Or.inl rfl)
  case' bag => refine' Ziq ?bah ?bai ?baj
  case bah => exact (Zf4 (k_bm (K := K) rfl PySem.F.plainAttrs_str PySem.F.slot_str_startswith PySem.F.type_str_startswith Zkg (pv 0) (Zaf Zak Zab)))
  case bai => exact (Zau Zdz (pv 0) (ZaB Zaa) ZaG)
  case baj => exact (pv 0)
  case' bac => refine' Zae ?bak ?bal
  case' bak => refine' Za1 ?bam ?ban ?bao
  case' bam => refine' ZjY ?bap
  case' bap => refine' PW.pt ?baq
  case' baq => refine' ZcP ?bar ?bas
  case bar => exact (ZlH op_le op_le Zaa (Zaw (Zcu (K := K) rfl) (by rfl) B.b_len ZbA (Zac (pv 2) Zab)) (pv 1))
  case' bas => refine' ZbX ?bat
  case' bat => refine' Zf4 ?bau
  case' bau => refine' Zaw ?bav ?baw ?bax ?bay ?baz
  case bav => exact (k_all (K := K) rfl rfl)
  case baw => exact (by rfl)
  case bax => exact B.b_all
  case bay => exact ZmX
  case' baz => refine' ZcR ?bba ?bbb
  case' bba => refine' ZdH (LN := ["sign"]) (FN := []) (fr := []) ?bbc ?bbd ?bbe ?bbf ?bbg ?bbh
  case bbc => exact rfl
  case bbd => exact (ZdO (by rfl))
  case bbe => exact (Ziy (K := K) rfl (pv 2))
  case' bbf => intro cl C fp pins s H
  case bbf => exact (ZaE (i := 0) (show ((["sign"] : List Str) ++ ([] : List Str)).Nodup by decide +kernel) rfl (Or.inl rfl))
  case' bbg => intro cl C fp pins s H
  case bbg => exact ZbY
  case' bbh => intro cl C fp pins s H
  case bbh => exact (Zfr op_inS (pv 0) (ZnM (by rfl) G.c_FIGURES) (by with_unfolding_all rfl))
  case bbb => exact Zab
  case ban => exact (Zag (Zct (by rfl) HX.m_NoText HX.exc (Zaf Zak Zab)))
  case bao => exact Zaz
  case' bal => refine' Zae ?bbi ?bbj
  case' bbi => refine' Za1 ?bbk ?bbl ?bbm
  case bbk => exact (PW.pt (ZcP (Zal Zbc (Zao Zhd (pv 2) Zaa (fun _ _ => rfl)) Zak (Zas _)) (ZbX (Zal Ze0 (pv 0) Zak (Zas _)))))
  case bbl => exact (Zag (Zct (by rfl) HX.m_NoText HX.exc (Zaf Zak Zab)))
  case bbm => exact Zaz
  case bbj => exact (Zag (ZaD (ZaI ZdN (by rfl) B.b_int Zev (Zac (pv 0) Zab))))
  refine Zf3 ?_
  refine Zio ?_
  refine ZlZ (fun v => ∃ fz : Str, An3 (v = .str fz) (cs fz = figT z) (Zbd fz)) ?_ fun N hN => ?_
  rotate_left
  · walk_at"rd"
    refine ⟨rfl, ?_⟩
    walk_at"rd"
    rw [show Txt.startswith z (Str.ofString "-") = decide ((cs z).head? = some 45) from Zg0 z]
    refine ZaS (fun hd => ?_) (fun hd => ?_)
    · walk_at"rd"
      have h1 : 1 <= z.length := by
        rw [<- hl]
        cases ez : cs z with
        | nil => rw [ez] at hd; cases hd
        | cons c r => simp
      have es : cs (Txt.slice z (some 1) none) = figT z := by
        rw [Zjv z h1]
        unfold figT
        rw [if_pos hd]
      refine ⟨z, rfl, (ZaN (by lia)), hN _ ⟨_, rfl, es, asc_mem.mpr fun c hc => ?_⟩⟩
      rw [Zjv z h1] at hc
      exact asc_mem.mp az c (mem_of_mem_drop hc)
    · walk_at"rd"
      exact hN _ ⟨z, rfl, by unfold figT; rw [if_neg hd], az⟩
  rintro v ⟨fz, rfl, ef, af⟩
  have hfl := Za0 fz
  have hfz : fz.length <= 900000 := by
    rw [<- hfl, ef]
    unfold figT
    split
    · rw [length_drop]; lia
    · lia
  have bad : ∀ H', ¬ ((1 <= (figT z).length /\ (figT z).length <= most) /\ (figT z).all Zb5 = true) -> Same H H' -> E (.ref Zah) none H' := fun H' h s' => no H' (by unfold ZaF; rw [if_neg h]) s'
  walk_at"rd"
  refine Zef ((ZaN (by lia))) ?_
  walk_at"rd"
  refine ZaS (fun h1 => ?_) (fun h1 => ?_)
  rotate_left
  · walk_at"rd"
    exact ⟨by decide, bad _ (fun h => h1 (by rw [<- ef, hfl] at h; lia)) (Same.refl _)⟩
  walk_at"rd"
  refine ZaS (fun h2 => ?_) (fun h2 => ?_)
  rotate_left
  · walk_at"rd"
    exact ⟨by decide, bad _ (fun h => h2 (by rw [<- ef, hfl] at h; lia)) (Same.refl _)⟩
  walk_at"rd"
  refine ZjI ?_
  walk_at"rd"
  refine ⟨fz, rfl, af, ?_⟩
  refine ZmU ((ZaN (by show fz.length <= _; lia))) (fun i ys σ Hy => An3 (∃ x1, σ = [x1]) (Hy = H) (ys = ((cs fz).take i).map fun c => V.bl (Zb5 c))) ⟨⟨none, rfl⟩, rfl, rfl⟩ ?_ ?_
  · rintro i c ys σ Hy hc hle hlt ⟨⟨x1, rfl⟩, rfl, rfl⟩
    walk_at"rd"
    refine Znt ?_
    refine ⟨hlt, by simpa using hle, ⟨_, rfl⟩, rfl, ?_⟩
    have hc' : (cs fz)[i]? = some c := by rw [Array.getElem?_toList]; exact hc
    rw [take_add_one, hc']
    have : Zb5 c = decide (c ∈ (Str.ofString "0123456789").cps.toList) := ZmQ c
    simp [this]
  rintro ys σ Hy _ ⟨⟨x1, rfl⟩, rfl, rfl⟩ p hp
  rw [show fz.cps.size = (cs fz).length from hfl.symm, take_length]
  have s1 := Same.new (o := .lst ((cs fz).map fun c => V.bl (Zb5 c))) hp
  have e1 : upd Hy p (.lst ((cs fz).map fun c => V.bl (Zb5 c))) p = some (.lst ((cs fz).map fun c => V.bl (Zb5 c))) := Zad
  generalize upd Hy p (.lst ((cs fz).map fun c => V.bl (Zb5 c))) = H1 at s1 e1
  walk_at"rd"
  refine ⟨p, (cs fz).map Zb5, rfl, SqL.of (by rw [e1, map_map]; rfl), ?_⟩
  walk_at"rd"
  have ea : ((cs fz).map Zb5).all id = (figT z).all Zb5 := by rw [ef, all_map]; rfl
  rw [ea]
  cases hall : (figT z).all Zb5 with
  | false =>
    walk_at"rd"
    exact ⟨by decide, bad _ (fun h => by rw [hall] at h; exact absurd h.2 (by decide)) s1⟩
  | true =>
    walk_at"rd"
    have hcond : (1 <= (figT z).length /\ (figT z).length <= most) /\ (figT z).all Zb5 = true := ⟨by rw [<- ef, hfl]; lia, hall⟩
    obtain ⟨c, r, ec⟩ : ∃ c r, cs fz = c :: r := by
      cases h : cs fz with
      | nil => rw [h] at hfl; simp at hfl; lia
      | cons c r => exact ⟨c, r, rfl⟩
    refine ⟨fz, 0, c, rfl, rfl, (ZaN (by lia)), Zan (n := 0) rfl (by show (cs fz)[0]? = _; rw [ec]; rfl), ?_⟩
    walk_at"rd"
    obtain ⟨hzl, n', hn'⟩ := Zey hm hcond.1 hcond.2
    have fin : ¬ ((figT z).head? = some 48 /\ cs z ≠ [48]) -> ZaF most z = some n' := fun h => by
      unfold ZaF
      rw [if_pos hcond, if_neg h]
      exact hn'
    have hz0 : z = Str.ofString "0" ↔ cs z = [48] := ⟨fun e => by rw [e]; decide, fun e => Zet (by rw [e]; decide)⟩
    have hc0 : (⟨#[c]⟩ : Str) = Str.ofString "0" ↔ (figT z).head? = some 48 := by
      rw [<- ef, ec]
      constructor
      · intro e
        have := congrArg cs e
        have h2 : [c] = [48] := this.trans (by decide)
        rw [(List.cons.inj h2).1]
        rfl
      · intro e
        cases e
        decide
    refine ZaS (fun h3 => ?_) (fun h3 => ?_)
    · walk_at"rd"
      refine ZdJ (fun h4 => ?_) (fun h4 => ?_)
      · walk_at"rd"
        exact ⟨by decide, no _ (by unfold ZaF; rw [if_pos hcond, if_pos ⟨hc0.mp h3, fun e => h4 (hz0.mpr e)⟩]) s1⟩
      · walk_at"rd"
        refine Zd1 hn' (by lia) ?_
        exact k _ _ (fin fun h => h.2 (hz0.mp h4)) s1
    · walk_at"rd"
      refine Zd1 hn' (by lia) ?_
      exact k _ _ (fin fun h => h3 (hc0.mpr h.1)) s1
theorem ZmN {c x : Nat} : ∀ {ps : List (List Nat)} {p : List Nat}, p ∈ ps -> x ∈ p -> x ∈ jn c ps
  | [_], p, hp, hx => by rw [mem_singleton.mp hp] at hx; exact hx
  | a :: b :: r, p, hp, hx => by
    show x ∈ a ++ c :: jn c (b :: r)
    rcases mem_cons.mp hp with rfl | hp
    · exact mem_append_left _ hx
    · exact mem_append_right _ (mem_cons_of_mem _ (ZmN hp hx))
theorem ZmO {c : Nat} : ∀ {ps : List (List Nat)} {p : List Nat}, p ∈ ps -> p.length <= (jn c ps).length
  | [_], p, hp => by rw [mem_singleton.mp hp]; exact Nat.le_refl _
  | a :: b :: r, p, hp => by
    show _ <= (a ++ c :: jn c (b :: r)).length
    rw [length_append, length_cons]
    rcases mem_cons.mp hp with rfl | hp
    · lia
    · have := ZmO (c := c) hp
      lia
theorem ZeA {z p:Str} {c:Nat} (h:p∈Txt.split z ⟨#[c]⟩):(∀ x∈cs p,x∈cs z)/\p.length<=z.length:=by
 have e:=congrArg cs (StrLaws.join_split z ⟨#[c]⟩)
 rw [Zbg] at e
 have hm:cs p∈(Txt.split z ⟨#[c]⟩).map cs:=mem_map.mpr ⟨p,h,rfl⟩
 refine ⟨fun x hx=>by rw [<-e];exact ZmN hm hx,?_⟩
 have:=ZmO (c:=c) hm
 rw [e,Za0,Za0] at this
 exact this
theorem ZiJ {z p:Str} {c:Nat} (h:p∈Txt.split z ⟨#[c]⟩) (a:Zbd z):Zbd p:=asc_mem.mpr fun x hx=>asc_mem.mp a x ((ZeA h).1 x hx)
theorem ZkK {α β:Type} {f:β->α->Option β} {l m:List α} {b:β} (h:l.foldlM f b=none):(l++m).foldlM f b=none:=by
 rw [foldlM_append,h]
 rfl
theorem Zjj {α β:Type} {f:β->α->Option β} {l:List α} {b:β} {i:Nat} (h:(l.take i).foldlM f b=none):l.foldlM f b=none:=by
 rw [<-take_append_drop i l]
 exact ZkK h
theorem ZkJ {α β:Type} {f:β->α->Option β} {l:List α} {b c:β} {i:Nat} {x:α} (hx:l[i]?=some x) (h:(l.take i).foldlM f b=some c):(l.take (i+1)).foldlM f b=f c x:=by
 rw [take_add_one,hx,foldlM_append,h]
 show (f c x >>= pure)=_
 exact bind_pure _
theorem ZcA {α β:Type} {f:α->Option β} {l:List α} {r:List β} {i:Nat} {x:α} (hx:l[i]?=some x) (h:(l.take i).mapM f=some r):(l.take (i+1)).mapM f=(f x).map fun y=>r++[y]:=by
 rw [take_add_one,hx,mapM_append,h]
 show (some r >>= fun xs=>([x]:List α).mapM f >>= fun ys=>pure (xs++ys))=_
 rw [mapM_cons,mapM_nil]
 cases f x <;> rfl
theorem ZcB {α β:Type} {f:α->Option β} {l:List α} {i:Nat} (h:(l.take i).mapM f=none):l.mapM f=none:=by
 rw [<-take_append_drop i l,mapM_append,h]
 rfl
theorem sc__law_number:FnScope ["bag"] ["bag"] (Zam Zcs):=⟨rfl,rfl,rfl,by decide +kernel,rfl,by decide +kernel,by decide +kernel⟩
theorem ZgP (T__law_number:TopFn K mg "_law_number" Zcs ["bag"]) (Zax:Callee P w K mg base "_law_draw" 1 ["bag","many"] ZeB):Callee P w K mg base "_law_number" 2 ["bag"] Zeb:=by
 refine T__law_number.ok1 sc__law_number fun f cdv A outer s H v1 Q E hr h=>?_
 have nd:=sc__law_number.nd
 obtain ⟨b,l,rfl,Bg,k⟩:=h
 refine' Zbl [some (.ref b)] rfl ?hb ?hg
 case' hb=>refine' Zae ?bab ?bac
 case' bab=>refine' Za1 ?bad ?bae ?baf
 case bad=>exact (Zal Zbc (Za7 Zax (hr.mono (by first|decide|lia)) (by rfl) (Zac (pv 0) (Zaf Zaa Zab))) Zaa (Zas _))
 case' bae=>refine' Zag ?bag
 case' bag=>refine' ZaD ?bah
 case' bah=>refine' Zar ?bai ?baj ?bak
 case bai=>exact Zj9
 case' baj=>refine' Zar ?bal ?bam ?ban
 case bal=>exact Zj7
 case bam=>exact (Zar Zj9 (Za7 Zax (hr.mono (by first|decide|lia)) (by rfl) (Zac (pv 0) (Zaf Zaa Zab))) Zaa)
 case ban=>exact Zaa
 case bak=>exact (Za7 Zax (hr.mono (by first|decide|lia)) (by rfl) (Zac (pv 0) (Zbi (Zar Zis Zaa Zaa) Zab)))
 case baf=>exact Zaz
 case bac=>exact (Zag (ZaD (Zar Zj7 (Za7 Zax (hr.mono (by first|decide|lia)) (by rfl) (Zac (pv 0) (Zaf Zaa Zab))) Zaa)))
 walk_at"rd"
 refine use2 ⟨b,l,8,rfl,rfl,⟨by decide,by decide⟩,Bg,fun r H1 h0 h1 B1 b1=>?_⟩
 walk_at"rd"
 refine ZaS (fun _=>?_) (fun _=>?_)
 ·walk_at"rd"
  refine use2 ⟨b,l,2,rfl,rfl,⟨by decide,by decide⟩,B1,fun r2 H2 g0 g1 B2 b2=>?_⟩
  walk_at"rd"
  refine rd_I (ZkY (by lia) (by decide +kernel)) ?_
  walk_at"rd"
  refine rd_I ZmW ?_
  walk_at"rd"
  refine use2 ⟨b,l,_,rfl,rfl,⟨by decide +kernel,by decide +kernel⟩,B2,fun r3 H3 f0 f1 B3 b3=>?_⟩
  rw [ten60] at f1
  refine rd_I (ZkY (by lia) (by lia)) ?_
  refine k _ _ ?_ B3 ((b1.trans b2).trans b3)
  rw [Int.natAbs_mul]
  have e1:(r2 * 2 - 1).natAbs<=1:=by lia
  have e2:r3.natAbs<=10 ^ 60:=by lia
  calc (r2 * 2 - 1).natAbs * r3.natAbs<=1 * 10 ^ 60:=Nat.mul_le_mul e1 e2
   _=10 ^ 60:=by rw [Nat.one_mul]
 ·walk_at"rd"
  refine use2 ⟨b,l,9,rfl,rfl,⟨by decide,by decide⟩,B1,fun r2 H2 g0 g1 B2 b2=>?_⟩
  walk_at"rd"
  exact k _ _ (by lia) B2 (b1.trans b2)
noncomputable def N60 (n:Int):Prop:=n.natAbs<=10 ^ 60
theorem N60.sm {n:Int} (h:N60 n):Sm n:=by
 unfold Sm
 refine Nat.lt_of_le_of_lt h ?_
 rw [show 300=60+240 from rfl,Nat.pow_add]
 have:1 < 10 ^ 240:=Nat.one_lt_pow (by decide) (by decide)
 generalize (10:Nat) ^ 240=B at this
 have h2:(10:Nat) ^ 60 * 2<=10 ^ 60 * B:=Nat.mul_le_mul_left _ this
 have h3:0 < (10:Nat) ^ 60:=by decide
 lia
theorem N60.len {n:Int} (h:N60 n):(numS n).length<=62:=by
 rw [<-Za0]
 rcases Zek n with ⟨m,rfl,e⟩|⟨m,_,rfl,e⟩
 ·rw [e]
  have:=ZiE 61 m (by decide) (by unfold N60 at h;lia)
  lia
 ·rw [e]
  have:=ZiE 61 m (by decide) (by unfold N60 at h;lia)
  show _+1<=_
  lia
structure FB (f:Zbj):Prop where
 n:N60 f.1
 few:f.2.length<=3
 all:∀ q∈f.2,N60 q.1/\N60 q.2
noncomputable def LB (fs:List Zbj):Prop:=fs.length<=4/\∀ f∈fs,FB f
noncomputable def EB (e:ZdW):Prop:=N60 e.1/\N60 e.2.2/\LB e.2.1
theorem pick5:∀ r:Nat,r < 5->∃ m:Nat,m<=3/\([V.int 0,V.int 1,V.int 1,V.int 2,V.int 3]:List V)[r]?=some (.int m)
 | 0,_=>⟨0,by decide,rfl⟩
 | 1,_=>⟨1,by decide,rfl⟩
 | 2,_=>⟨1,by decide,rfl⟩
 | 3,_=>⟨2,by decide,rfl⟩
 | 4,_=>⟨3,by decide,rfl⟩
 | n+5,h=>absurd h (by lia)
inductive Pr_wforms (x:V) (H:Hp) (Q:VK):Prop
 | mk (b l) (_:x=.ref b) (_:BagAt H b l) (_:∀ fs v H',LB fs->Rep H' (Zer fs) v->BagAt H' b l->BSame b H H'->Q v H'):Pr_wforms x H Q
noncomputable def Zfh:Sp:=sp1 (Pr_wforms)
theorem sc__law_wild_forms:FnScope ["bag","found","k","pairs"] ["bag"] (Zam ZbH):=⟨rfl,rfl,rfl,by decide +kernel,rfl,by decide +kernel,by decide +kernel⟩
theorem ZeJ (B:Blt mg) (T__law_wild_forms:TopFn K mg "_law_wild_forms" ZbH ["bag"]) (Zax:Callee P w K mg base "_law_draw" 1 ["bag","many"] ZeB) (ZaP:Callee P w K mg base "_law_number" 2 ["bag"] Zeb):Callee P w K mg base "_law_wild_forms" 3 ["bag"] Zfh:=by
 refine T__law_wild_forms.ok1 sc__law_wild_forms fun f cdv A outer s H v1 Q E hr h=>?_
 have nd:=sc__law_wild_forms.nd
 obtain ⟨b,l,rfl,Bg,k⟩:=h
 refine' Zbl [some (.ref b),none,none,none] rfl ?hb ?hg
 case' hb=>refine' Zae ?bab ?bac
 case bab=>exact (Zcm (i:=1) nd rfl (Or.inl rfl) (Zba Zab))
 case' bac=>refine' Zae ?bad ?bae
 case' bad=>refine' Zch ?baf ?bag ?bah ?bai ?baj
 case baf=>exact PassesOwn.never
 case bag=>exact rfl
 case' bah=>refine' ZbL ?bak ?bal ?bam
 case bak=>exact rfl
 case bal=>exact B.b_range
 case bam=>exact (Zay (Za7 Zax (hr.mono (by first|decide|lia)) (by rfl) (Zac (pv 0) (Zaf Zaa Zab))) Zab)
 case bai=>exact (ZaE (i:=2) nd rfl (Or.inl rfl))
 case' baj=>refine' Zae ?ban ?bao
 case' ban=>refine' ZhJ (i:=3) (LN:=["j"]) (FN:=["bag"]) (fr:=[0]) ?bap ?baq ?bar ?bas ?bat ?bau ?bav ?baw ?bax
 case bap=>exact rfl
 case baq=>exact nd
 case bar=>exact rfl
 case bas=>exact rfl
 case bat=>exact (ZdO (by rfl))
 case' bau=>refine' ZbL ?bay ?baz ?bba
 case bay=>exact rfl
 case baz=>exact B.b_range
 case' bba=>refine' Zap ?bbb ?bbc
 case' bbb=>refine' Zao ?bbd ?bbe ?bbf ?bbg
 case bbd=>exact (k_ix (K:=K) rfl)
 case bbe=>exact (Zba (Zaf Zaa (Zaf Zaa (Zaf Zaa (Zaf Zaa (Zaf Zaa Zab))))))
 case bbf=>exact (Za7 Zax (hr.mono (by first|decide|lia)) (by rfl) (Zac (pv 0) (Zaf Zaa Zab)))
 case bbg=>exact (fun _ _=>rfl)
 case bbc=>exact Zab
 case' bav=>intro cl C fp pins s H
 case bav=>exact (ZaE (i:=0) (show ((["j"]:List Str)++(["bag"]:List Str)).Nodup by decide +kernel) rfl (Or.inl rfl))
 case' baw=>intro cl C fp pins s H
 case baw=>exact ZbY
 case' bax=>intro cl C fp pins s H
 case' bax=>refine' Zbb ?bbh
 case' bbh=>refine' Zay ?bbi ?bbj
 case bbi=>exact (Za7 ZaP (hr.mono (by first|decide|lia)) (by rfl) (Zac (pv 1) Zab))
 case bbj=>exact (Zay (Za7 ZaP (hr.mono (by first|decide|lia)) (by rfl) (Zac (pv 1) Zab)) Zab)
 case' bao=>refine' Zag ?bbk
 case' bbk=>refine' Zby ?bbl
 case' bbl=>refine' k_bm (K:=K) ?bbm ?bbn ?bbo ?bbp ?bbq ?bbr ?bbs
 case bbm=>exact rfl
 case bbn=>exact PySem.F.plainAttrs_list
 case bbo=>exact PySem.F.slot_list_append
 case bbp=>exact PySem.F.type_list_append
 case bbq=>exact Za3
 case bbr=>exact (pv 1)
 case' bbs=>refine' ZbR ?bbt ?bbu
 case' bbt=>refine' Zbb ?bbv
 case' bbv=>refine' Zay ?bbw ?bbx
 case bbw=>exact (Za7 ZaP (hr.mono (by first|decide|lia)) (by rfl) (Zac (pv 0) Zab))
 case bbx=>exact (Zay (ZaI (Zdr (K:=K) rfl) (by rfl) B.b_tuple ZbS (Zac (pv 3) Zab)) Zab)
 case bbu=>exact Zab
 case bae=>exact (Zag (ZaD (ZaI (Zdr (K:=K) rfl) (by rfl) B.b_tuple ZbS (Zac (pv 1) Zab))))
 walk_at"rd"
 walk_at"mk";intro q hq
 have s0:=Same.new (o:=.lst []) hq
 have nqb:q≠b:=fun z=>(Bg.ne hq).1 z.symm
 have nql:q≠l:=fun z=>(Bg.ne hq).2 z.symm
 walk_at"rd"
 refine use2 ⟨b,l,5,rfl,rfl,⟨by decide,by decide⟩,Bg.mono s0,fun n1 H1 g0 g1 B1 b1=>?_⟩
 walk_at"rd"
 refine ZdY (by lia) (by lia) ?_
 refine ZdK (n:=n1.toNat) (fun i σ Hx=>Ex4 fun (fs:List Zbj) (vs:List V) (x2:Option V) (x3:Option V)=>An7 (σ=[some (.ref b),some (.ref q),x2,x3]) (Hx q=some (.lst vs)) (Reps Hx (fs.map fD) vs) (fs.length=i) (∀ f∈fs,FB f) (BagAt Hx b l) (BSame b H Hx))
  ⟨[],[],none,none,rfl,b1 _ _ nqb Zad,Zaq,rfl,(fun f hf=>by cases hf),B1,((BSame.refl b H).to s0).trans b1⟩ ?_ ?_
 ·rintro i σ Hx hi ⟨fs,vs,x2,x3,rfl,hqx,rv,hl,ok,Bx,bx⟩
  have hvl:=rv.length
  rw [length_map] at hvl
  walk_at"rd"
  walk_at"mk";intro p0 hp0
  have s1:=Same.new (o:=.lst [V.int 0,V.int 1,V.int 1,V.int 2,V.int 3]) hp0
  have e1:upd Hx p0 (.lst [V.int 0,V.int 1,V.int 1,V.int 2,V.int 3]) p0=some (.lst [V.int 0,V.int 1,V.int 1,V.int 2,V.int 3]):=Zad
  have n0:p0≠b:=fun z=>(Bx.ne hp0).1 z.symm
  generalize upd Hx p0 (.lst [V.int 0,V.int 1,V.int 1,V.int 2,V.int 3])=H2 at s1 e1
  walk_at"rd"
  refine use2 ⟨b,l,5,rfl,rfl,⟨by decide,by decide⟩,Bx.mono s1,fun r H3 r0 r1 B3 b3=>?_⟩
  obtain ⟨r,rfl⟩:=Int.eq_ofNat_of_zero_le r0
  obtain ⟨m,hm,em⟩:=pick5 r (by lia)
  refine Zaj (b3 _ _ n0 e1) (Zan (n:=r) rfl em) ?_
  walk_at"rd"
  refine ZdY (by lia) (by lia) ?_
  refine Zfb (n:=m) (Ze6 (by lia)) (fun j ys σ Hy=>(∃ x1,σ=[x1,some (.ref b)])/\∃ zs:List (Int×Int),An5 (Reps Hy (zs.map ZhL) ys) (zs.length=j) (∀ z∈zs,N60 z.1/\N60 z.2) (BagAt Hy b l) (BSame b H3 Hy)) ⟨⟨none,rfl⟩,[],Zaq,rfl,(fun z hz=>by cases hz),B3,BSame.refl _ _⟩ ?_ ?_
  ·rintro j ys σ Hy hj hle hlt ⟨⟨x1,rfl⟩,zs,rz,hz,hb,By,bY⟩
   walk_at"rd"
   refine use1 ⟨b,l,rfl,By,fun n4 H4 t4 B4 b4=>?_⟩
   walk_at"rd"
   refine use1 ⟨b,l,rfl,B4,fun n5 H5 t5 B5 b5=>?_⟩
   walk_at"rd"
   walk_at"mk";intro p6 hp6
   have s6:=Same.new (o:=.tup [V.int n4,V.int n5]) hp6
   refine ⟨hlt,by simpa using hle,⟨_,rfl⟩,zs++[(n4,n5)],?_,by simp [hz],fun z hz'=>?_,B5.mono s6,(bY.trans (b4.trans b5)).to s6⟩
   ·rw [map_append]
    exact Reps.append ((rz.mono ((b4.trans b5).ts By)).mono s6.ts) (Zai (ZaZ Zad (Zai Za9 (Zai Za9 Zaq))) Zaq)
   ·rcases mem_append.mp hz' with hz'|hz'
    ·exact hb z hz'
    ·rw [mem_singleton.mp hz'];exact ⟨t4,t5⟩
  rintro ys σ Hy _ ⟨⟨x1,rfl⟩,zs,rz,hz,hb,By,bY⟩ p6 hp6
  have s6:=Same.new (o:=.lst ys) hp6
  have e6:upd Hy p6 (.lst ys) p6=some (.lst ys):=Zad
  have n6:p6≠b:=fun z=>(By.ne hp6).1 z.symm
  have B6:=By.mono s6
  have rz6:=rz.mono s6.ts
  generalize upd Hy p6 (.lst ys)=H6 at s6 e6 B6 rz6
  walk_at"rd"
  have hq6:=s6 _ _ (bY _ _ nqb (b3 _ _ nqb (s1 _ _ hqx)))
  refine ⟨.inl ⟨rfl,vs,SqL.of hq6⟩,?_⟩
  walk_at"rd"
  refine use1 ⟨b,l,rfl,B6,fun n7 H7 t7 B7 b7=>?_⟩
  walk_at"rd"
  refine Zdl (SqL.of (b7 _ _ n6 e6)) fun p8 hp8=>?_
  have s8:=Same.new (o:=.tup ys) hp8
  have e8:upd H7 p8 (.tup ys) p8=some (.tup ys):=Zad
  have B8:=B7.mono s8
  have rz8:=(rz6.mono (b7.ts B6)).mono s8.ts
  have hq8:=s8 _ _ (b7 _ _ nqb hq6)
  generalize upd H7 p8 (.tup ys)=H8 at s8 e8 B8 rz8 hq8
  walk_at"rd"
  walk_at"mk";intro p9 hp9
  have s9:=Same.new (o:=.tup [V.int n7,V.ref p8]) hp9
  have e9:upd H8 p9 (.tup [V.int n7,V.ref p8]) p9=some (.tup [V.int n7,V.ref p8]):=Zad
  have B9:=B8.mono s9
  have rz9:=rz8.mono s9.ts
  have hq9:=s9 _ _ hq8
  have e89:=s9 _ _ e8
  generalize upd H8 p9 (.tup [V.int n7,V.ref p8])=H9 at s9 e9 B9 rz9 hq9 e89
  walk_at"rd"
  refine ZaV hq9 (Nat.lt_of_le_of_lt (show vs.length<=1000 by lia) (by decide)) ?_
  walk_at"rd"
  have bxx:BSame b Hx H9:=((((((BSame.of s1).trans b3).trans bY).to s6).trans b7).to s8).to s9
  have tw:TSame H9 (upd H9 q (.lst (vs++[V.ref p9]))):=TSame.wr (fun zs z=>by rw [hq9] at z;cases z)
  refine ⟨fs++[(n7,zs)],vs++[V.ref p9],_,_,rfl,Zad,?_,by simp [hl],fun f hf=>?_,B9.wr (Ne.symm nqb) (Ne.symm nql),(bx.trans bxx).wrNew hq⟩
  ·rw [map_append]
   exact Reps.append ((rv.mono (bxx.ts Bx)).mono tw) (Zai ((ZaZ e9 (Zai Za9 (Zai (ZaZ e89 rz9) Zaq))).mono tw) Zaq)
  ·rcases mem_append.mp hf with hf|hf
   ·exact ok f hf
   ·rw [mem_singleton.mp hf]
    exact ⟨t7,by show zs.length<=3;lia,hb⟩
 ·rintro σ Hx ⟨fs,vs,x2,x3,rfl,hqx,rv,hl,ok,Bx,bx⟩
  walk_at"rd"
  refine Zdl (SqL.of hqx) fun p8 hp8=>?_
  have s8:=Same.new (o:=.tup vs) hp8
  exact k fs _ _ ⟨by lia,ok⟩ (ZaZ Zad (rv.mono s8.ts)) (Bx.mono s8) (bx.to s8)
inductive Pr_wedge (x:V) (H:Hp) (Q:VK):Prop
 | mk (b l) (_:x=.ref b) (_:BagAt H b l) (_:∀ e v H',EB e->Rep H' (ZcY e) v->BagAt H' b l->BSame b H H'->Q v H'):Pr_wedge x H Q
noncomputable def Zie:Sp:=sp1 (Pr_wedge)
theorem sc__law_wild_edge:FnScope ["bag"] ["bag"] (Zam ZbO):=⟨rfl,rfl,rfl,by decide +kernel,rfl,by decide +kernel,by decide +kernel⟩
theorem Ze3 (T__law_wild_edge:TopFn K mg "_law_wild_edge" ZbO ["bag"]) (ZaP:Callee P w K mg base "_law_number" 2 ["bag"] Zeb) (Zbh:Callee P w K mg base "_law_wild_forms" 3 ["bag"] Zfh):Callee P w K mg base "_law_wild_edge" 4 ["bag"] Zie:=by
 refine T__law_wild_edge.ok1 sc__law_wild_edge fun f cdv A outer s H v1 Q E hr h=>?_
 have nd:=sc__law_wild_edge.nd
 obtain ⟨b,l,rfl,Bg,k⟩:=h
 refine' Zbl [some (.ref b)] rfl ?hb ?hg
 case' hb=>refine' Zag ?bab
 case' bab=>refine' ZaD ?bac
 case' bac=>refine' Zbb ?bad
 case' bad=>refine' Zay ?bae ?baf
 case bae=>exact (Za7 ZaP (hr.mono (by first|decide|lia)) (by rfl) (Zac (pv 0) Zab))
 case' baf=>refine' Zay ?bag ?bah
 case bag=>exact (Za7 Zbh (hr.mono (by first|decide|lia)) (by rfl) (Zac (pv 0) Zab))
 case bah=>exact (Zay (Za7 ZaP (hr.mono (by first|decide|lia)) (by rfl) (Zac (pv 0) Zab)) Zab)
 walk_at"rd"
 refine use1 ⟨b,l,rfl,Bg,fun n1 H1 t1 B1 b1=>?_⟩
 walk_at"rd"
 refine use1 ⟨b,l,rfl,B1,fun fs v2 H2 t2 r2 B2 b2=>?_⟩
 walk_at"rd"
 refine use1 ⟨b,l,rfl,B2,fun n3 H3 t3 B3 b3=>?_⟩
 walk_at"rd"
 walk_at"mk";intro p4 hp4
 have s4:=Same.new (o:=.tup [V.int n1,v2,V.int n3]) hp4
 exact k (n1,fs,n3) _ _ ⟨t1,t3,t2⟩ (ZaZ Zad (Zai Za9 (Zai ((r2.mono (b3.ts B2)).mono s4.ts) (Zai Za9 Zaq)))) (B3.mono s4) (((b1.trans b2).trans b3).to s4)
noncomputable def WsOk (ws:List Str):Prop:=ws.length<=1000000/\∀ w∈ws,Zbd w/\w.length<=900000
theorem WsOk.split {z:Str} {c:Nat} (hz:z.length<=900000) (az:Zbd z):WsOk (Txt.split z ⟨#[c]⟩):=by
 have:=Zfg z ⟨#[c]⟩
 exact ⟨by lia,fun w hw=>⟨ZiJ hw az,by have:=(ZeA hw).2;lia⟩⟩
theorem WsOk.sub {ws vs:List Str} (h:WsOk ws) (hl:vs.length<=ws.length) (hs:∀ v∈vs,v∈ws):WsOk vs:=⟨by have:=h.1;lia,fun w hw=>h.2 w (hs w hw)⟩
theorem WsOk.drop {ws:List Str} (h:WsOk ws) (k:Nat):WsOk (ws.drop k):=h.sub (by rw [length_drop];lia) fun v hv=>mem_of_mem_drop hv
theorem WsOk.take {ws:List Str} (h:WsOk ws) (k:Nat):WsOk (ws.take k):=h.sub (by rw [length_take];lia) fun v hv=>mem_of_mem_take hv
section
variable {Zah ZaA Zav ZaU:Addr}
inductive Pr_read_number (C:Addr) (x:V) (H:Hp) (Q:VK) (E:XK):Prop
 | mk (z) (_:x=.str z) (_:z.length<=900000) (_:Zbd z) (_:∀ n,ZaF 300 z=some n->∀ H',Same H H'->Q (.int n) H') (_:ZaF 300 z=none->∀ H',Same H H'->E (.ref C) none H'):Pr_read_number C x H Q E
noncomputable def Zb7 (C:Addr):Sp:=spX1 (Pr_read_number C)
theorem sc_read_number:FnScope ["text"] ["text"] (Zam Zcq):=⟨rfl,rfl,rfl,by decide +kernel,rfl,by decide +kernel,by decide +kernel⟩
theorem ZgN (B:Blt mg) (G:Glb K w mg) (HX:ExH K mg Zah ZaA Zav ZaU) (T_read_number:TopFn K mg "read_number" Zcq ["text"]) (Cread_whole:CalleeX P w K mg base Zah "read_whole" 1 ["text","most"] (Zd8 Zah)):CalleeX P w K mg base Zah "read_number" 2 ["text"] (Zb7 Zah):=by
 refine T_read_number.okX1 sc_read_number fun f cdv A outer s H v1 Q E hr h=>?_
 have nd:=sc_read_number.nd
 obtain ⟨z,rfl,hz,az,k,no⟩:=h
 refine' Zb2 [some (.str z)] rfl ?hb ?hg
 case' hb=>refine' Zag ?bab
 case bab=>exact (ZaD (ZdG Cread_whole (hr.mono (by first|decide|lia)) (by rfl) (Zac (pv 0) (Zac (ZnN (by rfl) G.c_MOST_FIGURES) Zab))))
 walk_at"rd"
 exact ZiL ⟨z,300,rfl,rfl,by decide,hz,az,fun n H' hn s'=>k n hn H' s',fun H' hn s'=>no hn H' s'⟩
theorem Zex {ws:List Str} {k:Nat} (hk:k<=ws.length):cutV (ws.map V.str) (some (k:Int)) none=(ws.drop k).map V.str:=by
 rw [ZgH (k:=k) (by rw [length_map];exact hk),map_drop]
inductive Pr_read_numbers (C:Addr) (x y:V) (H:Hp) (Q:VK) (E:XK):Prop
 | mk (a ws many) (_:x=.ref a) (_:y=.int (many:Nat)) (_:H a=some (.lst (ws.map V.str))) (_:WsOk ws) (_:∀ ns,Zbm many ws=some ns->∀ p H',H' p=some (.lst (ns.map V.int))->Same H H'->Q (.ref p) H') (_:Zbm many ws=none->∀ H',Same H H'->E (.ref C) none H'):Pr_read_numbers C x y H Q E
noncomputable def ZbC (C:Addr):Sp:=spX2 (Pr_read_numbers C)
theorem sc_read_numbers:FnScope ["words","many"] ["words","many"] (Zam Zb8):=⟨rfl,rfl,rfl,by decide +kernel,rfl,by decide +kernel,by decide +kernel⟩
theorem ZfQ (B:Blt mg) (G:Glb K w mg) (HX:ExH K mg Zah ZaA Zav ZaU) (T_read_numbers:TopFn K mg "read_numbers" Zb8 ["words","many"]) (Cread_number:CalleeX P w K mg base Zah "read_number" 2 ["text"] (Zb7 Zah)):CalleeX P w K mg base Zah "read_numbers" 3 ["words","many"] (ZbC Zah):=by
 refine T_read_numbers.okX2 sc_read_numbers fun f cdv A outer s H v1 v2 Q E hr h=>?_
 have nd:=sc_read_numbers.nd
 obtain ⟨a,ws,many,rfl,rfl,ha,wo,k,no⟩:=h
 have hwl:=wo.1
 refine' Zb2 [some (.ref a),some (.int (many:Nat))] rfl ?hb ?hg
 case' hb=>refine' Zae ?bab ?bac
 case' bab=>refine' Za1 ?bad ?bae ?baf
 case bad=>exact (Zal Ze0 (Zaw (Zcu (K:=K) rfl) (by rfl) B.b_len ZbA (Zac (pv 0) Zab)) (Zar ZbE (pv 1) Zaa) (Zas _))
 case bae=>exact (Zag (Zct (by rfl) HX.m_NoText HX.exc (Zaf Zak Zab)))
 case baf=>exact Zaz
 case' bac=>refine' Zag ?bag
 case' bag=>refine' ZaD ?bah
 case' bah=>refine' Zeh (LN:=["word"]) (FN:=[]) (fr:=[]) ?bai ?baj ?bak ?bal ?bam ?ban
 case bai=>exact rfl
 case baj=>exact (ZdO (by rfl))
 case bak=>exact (Za4 (K:=K) rfl (Zau (k_sl (K:=K) rfl) (pv 0) (ZaB Zaa) ZaG))
 case' bal=>intro cl C fp pins s H
 case bal=>exact (ZaE (i:=0) (show ((["word"]:List Str)++([]:List Str)).Nodup by decide +kernel) rfl (Or.inl rfl))
 case' bam=>intro cl C fp pins s H
 case bam=>exact ZbY
 case' ban=>intro cl C fp pins s H hin
 case ban=>exact (ZeG hin Cread_number (hr.mono (by first|decide|lia)) (by rfl) (Zac (pv 0) Zab))
 walk_at"rd"
 refine Zbf (SqL.of ha) ?_
 walk_at"rd"
 refine ZdJ (fun h1=>?_) (fun h1=>?_)
 ·walk_at"rd"
  refine ⟨by decide,no ?_ _ (Same.refl _)⟩
  unfold Zbm
  rw [if_neg]
  intro e
  rw [length_map,e] at h1
  exact h1 (by lia)
 rw [length_map] at h1
 have hl:ws.length=many+1:=by lia
 have hN:Zbm many ws=(ws.drop 1).mapM (ZaF 300):=by unfold Zbm;rw [if_pos hl]
 walk_at"rd"
 refine Zcx (SqL.of ha) fun p1 hp1=>?_
 rw [show cutV (ws.map V.str) (some 1) none=(ws.drop 1).map V.str from Zex (k:=1) (by lia)]
 have wd:=wo.drop 1
 generalize ws.drop 1=vs at hN wd
 have s1:=Same.new (o:=.lst (vs.map V.str)) hp1
 have e1:upd H p1 (.lst (vs.map V.str)) p1=some (.lst (vs.map V.str)):=Zad
 generalize upd H p1 (.lst (vs.map V.str))=H1 at s1 e1
 refine Zb4 (SqL.of e1) ?_
 refine Zds (xs:=vs.map V.str) (ZaN (by rw [length_map];exact wd.1)) (fun j ys σ Hy=>An3 (∃ x1,σ=[x1]) (Same H1 Hy) (∃ ns:List Int,(vs.take j).mapM (ZaF 300)=some ns/\ys=ns.map V.int)) ⟨⟨none,rfl⟩,Same.refl _,[],rfl,rfl⟩ (fun j ys σ Hy _ z_=>by obtain ⟨_,s4,_⟩:=z_;exact SqL.of (s4 _ _ e1)) ?_ ?_
 ·rintro j x ys σ Hy hx hle hlt ⟨⟨x1,rfl⟩,s4,ns,hns,rfl⟩
  rw [getElem?_map] at hx
  obtain ⟨wd',ew,rfl⟩:=Option.map_eq_some_iff.mp hx
  obtain ⟨aw,hw⟩:=wd.2 wd' (mem_of_getElem? ew)
  have nx:=ZcA (f:=ZaF 300) ew hns
  walk_at"rd"
  refine ZeY ⟨wd',rfl,hw,aw,fun n hn H5 s5=>?_,fun hn H5 s5=>no (by rw [hN,ZcB (i:=j+1) (by rw [nx,hn];rfl)]) _ ((s1.trans s4).trans s5)⟩
  refine ⟨hlt,by simpa using hle,⟨_,rfl⟩,s4.trans s5,ns++[n],by rw [nx,hn];rfl,by simp⟩
 rintro ys σ Hy _ ⟨⟨x1,rfl⟩,s4,ns,hns,rfl⟩ p5 hp5
 rw [length_map,take_length] at hns
 walk_at"rd"
 exact k ns (by rw [hN,hns]) p5 _ Zad ((s1.trans s4).trans (Same.new hp5))
inductive Pr_read_pair (C:Addr) (x:V) (H:Hp) (Q:VK) (E:XK):Prop
 | mk (z) (_:x=.str z) (_:z.length<=900000) (_:Zbd z) (_:∀ q,Zdn z=some q->∀ v H',Rep H' (ZhL q) v->Same H H'->Q v H') (_:Zdn z=none->∀ H',Same H H'->E (.ref C) none H'):Pr_read_pair C x H Q E
noncomputable def ZeL (C:Addr):Sp:=spX1 (Pr_read_pair C)
theorem sc_read_pair:FnScope ["part","numbers"] ["part"] (Zam Zdd):=⟨rfl,rfl,rfl,by decide +kernel,rfl,by decide +kernel,by decide +kernel⟩
theorem ZhX (B:Blt mg) (G:Glb K w mg) (HX:ExH K mg Zah ZaA Zav ZaU) (T_read_pair:TopFn K mg "read_pair" Zdd ["part"]) (Cread_number:CalleeX P w K mg base Zah "read_number" 2 ["text"] (Zb7 Zah)):CalleeX P w K mg base Zah "read_pair" 3 ["part"] (ZeL Zah):=by
 refine T_read_pair.okX1 sc_read_pair fun f cdv A outer s H v1 Q E hr h=>?_
 have nd:=sc_read_pair.nd
 obtain ⟨z,rfl,hz,az,k,no⟩:=h
 refine' Zb2 [some (.str z),none] rfl ?hb ?hg
 case' hb=>refine' Zae ?bab ?bac
 case' bab=>refine' Zbk (i:=1) ?bad ?bae ?baf ?bag
 case bad=>exact nd
 case bae=>exact rfl
 case baf=>exact (Or.inl rfl)
 case bag=>exact (k_bm (K:=K) rfl PySem.F.plainAttrs_str PySem.F.slot_str_split PySem.F.type_str_split Zb1 (pv 0) (Zaf Zak Zab))
 case' bac=>refine' Zae ?bah ?bai
 case' bah=>refine' Za1 ?baj ?bak ?bal
 case baj=>exact (Zal Ze0 (Zaw (Zcu (K:=K) rfl) (by rfl) B.b_len ZbA (Zac (pv 1) Zab)) Zaa (Zas _))
 case bak=>exact (Zag (Zct (by rfl) HX.m_NoText HX.exc (Zaf Zak Zab)))
 case bal=>exact Zaz
 case' bai=>refine' Zag ?bam
 case' bam=>refine' ZaD ?ban
 case' ban=>refine' Zbb ?bao
 case' bao=>refine' Zay ?bap ?baq
 case bap=>exact (ZdG Cread_number (hr.mono (by first|decide|lia)) (by rfl) (Zap (Zao (k_ix (K:=K) rfl) (pv 1) Zaa (fun _ _=>rfl)) Zab))
 case' baq=>refine' Zay ?bar ?bas
 case bar=>exact (ZdG Cread_number (hr.mono (by first|decide|lia)) (by rfl) (Zap (Zao (k_ix (K:=K) rfl) (pv 1) Zaa (fun _ _=>rfl)) Zab))
 case bas=>exact Zab
 walk_at"rd"
 refine ⟨rfl,?_⟩
 walk_at"rd"
 refine ZdR (by decide) (ZaN (by lia)) fun p1 hp1=>?_
 rw [show (Str.ofString ":")=(⟨#[58]⟩:Str) from Zdt]
 have wo:=WsOk.split (c:=58) hz az
 have eP:Zdn z=ZlR (Txt.split z ⟨#[58]⟩):=by unfold Zdn;rw [Zdt]
 generalize Txt.split z ⟨#[58]⟩=ps at wo eP
 have s1:=Same.new (o:=.lst (ps.map V.str)) hp1
 have e1:upd H p1 (.lst (ps.map V.str)) p1=some (.lst (ps.map V.str)):=Zad
 generalize upd H p1 (.lst (ps.map V.str))=H1 at s1 e1
 walk_at"rd"
 refine Zbf (SqL.of e1) ?_
 walk_at"rd"
 refine ZdJ (fun h1=>?_) (fun h1=>?_)
 ·walk_at"rd"
  refine ⟨by decide,no ?_ _ s1⟩
  rw [eP]
  rcases ps with _|⟨x,_|⟨y,_|⟨y2,r2⟩⟩⟩
  ·rfl
  ·rfl
  ·exact absurd rfl h1
  ·rfl
 rw [length_map] at h1
 obtain ⟨x,y,rfl⟩:∃ x y,ps=[x,y]:=by
  rcases ps with _|⟨t,_|⟨b,_|⟨b2,r2⟩⟩⟩
  ·simp at h1
  ·simp at h1
  ·exact ⟨t,b,rfl⟩
  ·simp only [length_cons] at h1;lia
 have eP:Zdn z=both Prod.mk (ZaF 300 x) (ZaF 300 y):=eP
 obtain ⟨ax,lx⟩:=wo.2 x mem_cons_self
 obtain ⟨ay,ly⟩:=wo.2 y (mem_cons_of_mem _ mem_cons_self)
 walk_at"rd"
 refine Zaj e1 (v:=.str x) (Zan (n:=0) rfl rfl) ?_
 walk_at"rd"
 refine ZeY ⟨x,rfl,lx,ax,fun n hn H2 s2=>?_,fun hn H2 s2=>no (by rw [eP,hn];rfl) _ (s1.trans s2)⟩
 walk_at"rd"
 refine Zaj (s2 _ _ e1) (v:=.str y) (Zan (n:=1) rfl rfl) ?_
 walk_at"rd"
 refine ZeY ⟨y,rfl,ly,ay,fun m hm H3 s3=>?_,fun hm H3 s3=>no (by rw [eP,hn,hm];rfl) _ ((s1.trans s2).trans s3)⟩
 walk_at"rd"
 walk_at"mk";intro p4 hp4
 have s4:=Same.new (o:=.tup [V.int n,V.int m]) hp4
 exact k (n,m) (by rw [eP,hn,hm];rfl) (.ref p4) _ (ZaZ Zad (Zai Za9 (Zai Za9 Zaq))) (((s1.trans s2).trans s3).trans s4)
end
end
end My
end
section
namespace My
open PySem L2
section
variable {P:Program} {w:World} {K:PySem.W.Frag} {mg:Str->Option Value} {base:Heap}
section
variable {Zah ZaA Zav ZaU:Addr}
inductive Pr_read_form (C:Addr) (x:V) (H:Hp) (Q:VK) (E:XK):Prop
 | mk (z) (_:x=.str z) (_:z.length<=900000) (_:Zbd z) (_:∀ q,ZbT z=some q->∀ v H',Rep H' (fD q) v->Same H H'->Q v H') (_:ZbT z=none->∀ H',Same H H'->E (.ref C) none H'):Pr_read_form C x H Q E
noncomputable def ZeN (C:Addr):Sp:=spX1 (Pr_read_form C)
theorem sc_read_form:FnScope ["word","parts"] ["word"] (Zam Zdf):=⟨rfl,rfl,rfl,by decide +kernel,rfl,by decide +kernel,by decide +kernel⟩
theorem ZhZ (B:Blt mg) (G:Glb K w mg) (HX:ExH K mg Zah ZaA Zav ZaU) (T_read_form:TopFn K mg "read_form" Zdf ["word"]) (Cread_number:CalleeX P w K mg base Zah "read_number" 2 ["text"] (Zb7 Zah)) (Cread_pair:CalleeX P w K mg base Zah "read_pair" 3 ["part"] (ZeL Zah)):CalleeX P w K mg base Zah "read_form" 4 ["word"] (ZeN Zah):=by
 refine T_read_form.okX1 sc_read_form fun f cdv A outer s H v1 Q E hr h=>?_
 have nd:=sc_read_form.nd
 obtain ⟨z,rfl,hz,az,k,no⟩:=h
 refine' Zb2 [some (.str z),none] rfl ?hb ?hg
 case' hb=>refine' Zae ?bab ?bac
 case' bab=>refine' Zbk (i:=1) ?bad ?bae ?baf ?bag
 case bad=>exact nd
 case bae=>exact rfl
 case baf=>exact (Or.inl rfl)
 case bag=>exact (k_bm (K:=K) rfl PySem.F.plainAttrs_str PySem.F.slot_str_split PySem.F.type_str_split Zb1 (pv 0) (Zaf Zak Zab))
 case' bac=>refine' Zag ?bah
 case' bah=>refine' ZaD ?bai
 case' bai=>refine' Zbb ?baj
 case' baj=>refine' Zay ?bak ?bal
 case bak=>exact (ZdG Cread_number (hr.mono (by first|decide|lia)) (by rfl) (Zap (Zao (k_ix (K:=K) rfl) (pv 1) Zaa (fun _ _=>rfl)) Zab))
 case' bal=>refine' Zay ?bam ?ban
 case' bam=>refine' ZaI ?bao ?bap ?baq ?bar ?bas
 case bao=>exact (Zdr (K:=K) rfl)
 case bap=>exact (by rfl)
 case baq=>exact B.b_tuple
 case bar=>exact ZbS
 case' bas=>refine' ZcR ?bat ?bau
 case' bat=>refine' Zeh (LN:=["part"]) (FN:=[]) (fr:=[]) ?bav ?baw ?bax ?bay ?baz ?bba
 case bav=>exact rfl
 case baw=>exact (ZdO (by rfl))
 case bax=>exact (Za4 (K:=K) rfl (Zau (k_sl (K:=K) rfl) (pv 1) (ZaB Zaa) ZaG))
 case' bay=>intro cl C fp pins s H
 case bay=>exact (ZaE (i:=0) (show ((["part"]:List Str)++([]:List Str)).Nodup by decide +kernel) rfl (Or.inl rfl))
 case' baz=>intro cl C fp pins s H
 case baz=>exact ZbY
 case' bba=>intro cl C fp pins s H hin
 case bba=>exact (ZeG hin Cread_pair (hr.mono (by first|decide|lia)) (by rfl) (Zac (pv 0) Zab))
 case bau=>exact Zab
 case ban=>exact Zab
 walk_at"rd"
 refine ⟨rfl,?_⟩
 walk_at"rd"
 refine ZdR (by decide) (ZaN (by lia)) fun p1 hp1=>?_
 rw [show (Str.ofString ";")=(⟨#[59]⟩:Str) from ZdE]
 have wo:=WsOk.split (c:=59) hz az
 have eP:ZbT z=Zn8 (Txt.split z ⟨#[59]⟩):=by unfold ZbT;rw [ZdE]
 obtain ⟨x,vs,hws⟩:∃ w0 ws,Txt.split z ⟨#[59]⟩=w0::ws:=by
  cases hws:Txt.split z ⟨#[59]⟩ with
  | nil=>exact absurd hws (ZbV _ _)
  | cons w0 ws=>exact ⟨w0,ws,rfl⟩
 rw [hws] at wo eP ⊢
 have eP:ZbT z=both Prod.mk (ZaF 300 x) (vs.mapM Zdn):=eP
 have s1:=Same.new (o:=.lst ((x::vs).map V.str)) hp1
 have e1:upd H p1 (.lst ((x::vs).map V.str)) p1=some (.lst ((x::vs).map V.str)):=Zad
 generalize upd H p1 (.lst ((x::vs).map V.str))=H1 at s1 e1
 obtain ⟨ax,lx⟩:=wo.2 x mem_cons_self
 have wd:WsOk vs:=wo.drop 1
 walk_at"rd"
 refine Zaj e1 (v:=.str x) (Zan (n:=0) rfl rfl) ?_
 walk_at"rd"
 refine ZeY ⟨x,rfl,lx,ax,fun n hn H2 s2=>?_,fun hn H2 s2=>no (by rw [eP,hn];rfl) _ (s1.trans s2)⟩
 walk_at"rd"
 refine Zcx (SqL.of (s2 _ _ e1)) fun p3 hp3=>?_
 rw [show cutV ((x::vs).map V.str) (some 1) none=vs.map V.str from Zex (ws:=x::vs) (k:=1) (by simp)]
 have s3:=Same.new (o:=.lst (vs.map V.str)) hp3
 have e3:upd H2 p3 (.lst (vs.map V.str)) p3=some (.lst (vs.map V.str)):=Zad
 generalize upd H2 p3 (.lst (vs.map V.str))=H3 at s3 e3
 have s13:=(s1.trans s2).trans s3
 refine Zb4 (SqL.of e3) ?_
 refine Zds (xs:=vs.map V.str) (ZaN (by rw [length_map];exact wd.1)) (fun j ys σ Hy=>An3 (∃ x1,σ=[x1]) (Same H3 Hy) (∃ qs,(vs.take j).mapM Zdn=some qs/\Reps Hy (qs.map ZhL) ys)) ⟨⟨none,rfl⟩,Same.refl _,[],rfl,Zaq⟩ (fun j ys σ Hy _ z_=>by obtain ⟨_,s4,_⟩:=z_;exact SqL.of (s4 _ _ e3)) ?_ ?_
 ·rintro j y ys σ Hy hx hle hlt ⟨⟨x1,rfl⟩,s4,qs,hqs,rq⟩
  rw [getElem?_map] at hx
  obtain ⟨wd',ew,rfl⟩:=Option.map_eq_some_iff.mp hx
  obtain ⟨aw,hw⟩:=wd.2 wd' (mem_of_getElem? ew)
  have nx:=ZcA (f:=Zdn) ew hqs
  walk_at"rd"
  refine ZeY ⟨wd',rfl,hw,aw,fun q hq v H5 rv s5=>?_,fun hq H5 s5=>no (by rw [eP,hn,ZcB (i:=j+1) (by rw [nx,hq];rfl)];rfl) _ ((s13.trans s4).trans s5)⟩
  refine ⟨hlt,by simpa using hle,⟨_,rfl⟩,s4.trans s5,qs++[q],by rw [nx,hq];rfl,?_⟩
  rw [map_append]
  exact Reps.append (rq.mono s5.ts) (Zai rv Zaq)
 rintro ys σ Hy _ ⟨⟨x1,rfl⟩,s4,qs,hqs,rq⟩ p5 hp5
 rw [length_map,take_length] at hqs
 have s5:=Same.new (o:=.lst ys) hp5
 have e5:upd Hy p5 (.lst ys) p5=some (.lst ys):=Zad
 generalize upd Hy p5 (.lst ys)=H5 at s5 e5
 walk_at"rd"
 refine Zdl (SqL.of e5) fun p6 hp6=>?_
 have s6:=Same.new (o:=.tup ys) hp6
 have e6:upd H5 p6 (.tup ys) p6=some (.tup ys):=Zad
 generalize upd H5 p6 (.tup ys)=H6 at s6 e6
 walk_at"rd"
 walk_at"mk";intro p7 hp7
 have s7:=Same.new (o:=.tup [V.int n,V.ref p6]) hp7
 have s57:=(s5.trans s6).trans s7
 exact k (n,qs) (by rw [eP,hn,hqs];rfl) (.ref p7) _ (ZaZ Zad (Zai Za9 (Zai (ZaZ (s7 _ _ e6) (rq.mono s57.ts)) Zaq))) ((s13.trans s4).trans s57)
inductive Pr_read_forms (C:Addr) (x:V) (H:Hp) (Q:VK) (E:XK):Prop
 | mk (a ws) (_:x=.ref a) (_:H a=some (.lst (ws.map V.str))) (_:WsOk ws) (_:∀ fs,ZeW ws=some fs->∀ v H',Rep H' (Zer fs) v->Same H H'->Q v H') (_:ZeW ws=none->∀ H',Same H H'->E (.ref C) none H'):Pr_read_forms C x H Q E
noncomputable def Zdc (C:Addr):Sp:=spX1 (Pr_read_forms C)
theorem sc_read_forms:FnScope ["words"] ["words"] (Zam ZcN):=⟨rfl,rfl,rfl,by decide +kernel,rfl,by decide +kernel,by decide +kernel⟩
theorem Zhs (B:Blt mg) (G:Glb K w mg) (HX:ExH K mg Zah ZaA Zav ZaU) (T_read_forms:TopFn K mg "read_forms" ZcN ["words"]) (Cread_form:CalleeX P w K mg base Zah "read_form" 4 ["word"] (ZeN Zah)):CalleeX P w K mg base Zah "read_forms" 5 ["words"] (Zdc Zah):=by
 refine T_read_forms.okX1 sc_read_forms fun f cdv A outer s H v1 Q E hr h=>?_
 have nd:=sc_read_forms.nd
 obtain ⟨a,ws,rfl,ha,wo,k,no⟩:=h
 refine' Zb2 [some (.ref a)] rfl ?hb ?hg
 case' hb=>refine' Zag ?bab
 case' bab=>refine' ZaD ?bac
 case' bac=>refine' ZaI ?bad ?bae ?baf ?bag ?bah
 case bad=>exact (Zdr (K:=K) rfl)
 case bae=>exact (by rfl)
 case baf=>exact B.b_tuple
 case bag=>exact ZbS
 case' bah=>refine' ZcR ?bai ?baj
 case' bai=>refine' Zeh (LN:=["word"]) (FN:=[]) (fr:=[]) ?bak ?bal ?bam ?ban ?bao ?bap
 case bak=>exact rfl
 case bal=>exact (ZdO (by rfl))
 case bam=>exact (Za4 (K:=K) rfl (pv 0))
 case' ban=>intro cl C fp pins s H
 case ban=>exact (ZaE (i:=0) (show ((["word"]:List Str)++([]:List Str)).Nodup by decide +kernel) rfl (Or.inl rfl))
 case' bao=>intro cl C fp pins s H
 case bao=>exact ZbY
 case' bap=>intro cl C fp pins s H hin
 case bap=>exact (ZeG hin Cread_form (hr.mono (by first|decide|lia)) (by rfl) (Zac (pv 0) Zab))
 case baj=>exact Zab
 walk_at"rd"
 refine Zb4 (SqL.of ha) ?_
 refine Zds (xs:=ws.map V.str) (ZaN (by rw [length_map];exact wo.1)) (fun j ys σ Hy=>An3 (∃ x1,σ=[x1]) (Same H Hy) (∃ qs,(ws.take j).mapM ZbT=some qs/\Reps Hy (qs.map fD) ys)) ⟨⟨none,rfl⟩,Same.refl _,[],rfl,Zaq⟩ (fun j ys σ Hy _ z_=>by obtain ⟨_,s4,_⟩:=z_;exact SqL.of (s4 _ _ ha)) ?_ ?_
 ·rintro j y ys σ Hy hx hle hlt ⟨⟨x1,rfl⟩,s4,qs,hqs,rq⟩
  rw [getElem?_map] at hx
  obtain ⟨wd',ew,rfl⟩:=Option.map_eq_some_iff.mp hx
  obtain ⟨aw,hw⟩:=wo.2 wd' (mem_of_getElem? ew)
  have nx:=ZcA (f:=ZbT) ew hqs
  walk_at"rd"
  refine ZeY ⟨wd',rfl,hw,aw,fun q hq v H5 rv s5=>?_,fun hq H5 s5=>no (ZcB (i:=j+1) (by rw [nx,hq];rfl)) _ (s4.trans s5)⟩
  refine ⟨hlt,by simpa using hle,⟨_,rfl⟩,s4.trans s5,qs++[q],by rw [nx,hq];rfl,?_⟩
  rw [map_append]
  exact Reps.append (rq.mono s5.ts) (Zai rv Zaq)
 rintro ys σ Hy _ ⟨⟨x1,rfl⟩,s4,qs,hqs,rq⟩ p5 hp5
 rw [length_map,take_length] at hqs
 have s5:=Same.new (o:=.lst ys) hp5
 have e5:upd Hy p5 (.lst ys) p5=some (.lst ys):=Zad
 generalize upd Hy p5 (.lst ys)=H5 at s5 e5
 walk_at"rd"
 refine Zdl (SqL.of e5) fun p6 hp6=>?_
 have s6:=Same.new (o:=.tup ys) hp6
 exact k qs hqs (.ref p6) _ (ZaZ Zad (rq.mono (s5.trans s6).ts)) ((s4.trans s5).trans s6)
end
end
end My
end
section
namespace My
open PySem L2
section
variable {P:Program} {w:World} {K:PySem.W.Frag} {mg:Str->Option Value} {base:Heap}
section
variable {Zah ZaA Zav ZaU:Addr}
inductive Pr_read_edge (C:Addr) (x:V) (H:Hp) (Q:VK) (E:XK):Prop
 | mk (a ws) (_:x=.ref a) (_:H a=some (.lst (ws.map V.str))) (_:WsOk ws) (_:ws≠[]) (_:∀ e,Zcv ws=some e->∀ v H',Rep H' (ZcY e) v->Same H H'->Q v H') (_:Zcv ws=none->∀ H',Same H H'->E (.ref C) none H'):Pr_read_edge C x H Q E
noncomputable def ZeO (C:Addr):Sp:=spX1 (Pr_read_edge C)
theorem sc_read_edge:FnScope ["words","numbers"] ["words"] (Zam Zdg):=⟨rfl,rfl,rfl,by decide +kernel,rfl,by decide +kernel,by decide +kernel⟩
theorem Zh0 (B:Blt mg) (G:Glb K w mg) (HX:ExH K mg Zah ZaA Zav ZaU) (T_read_edge:TopFn K mg "read_edge" Zdg ["words"]) (Cread_numbers:CalleeX P w K mg base Zah "read_numbers" 3 ["words","many"] (ZbC Zah)) (Cread_forms:CalleeX P w K mg base Zah "read_forms" 5 ["words"] (Zdc Zah)):CalleeX P w K mg base Zah "read_edge" 6 ["words"] (ZeO Zah):=by
 refine T_read_edge.okX1 sc_read_edge fun f cdv A outer s H v1 Q E hr h=>?_
 have nd:=sc_read_edge.nd
 obtain ⟨a,ws,rfl,ha,wo,hne,k,no⟩:=h
 refine' Zb2 [some (.ref a),none] rfl ?hb ?hg
 case' hb=>refine' Zae ?bab ?bac
 case' bab=>refine' Za1 ?bad ?bae ?baf
 case bad=>exact (Zal Ze0 (Zao (k_ix (K:=K) rfl) (pv 0) Zaa (fun _ _=>rfl)) Zak (Zas _))
 case bae=>exact (Zag (Zct (by rfl) HX.m_NoText HX.exc (Zaf Zak Zab)))
 case baf=>exact Zaz
 case' bac=>refine' Zae ?bag ?bah
 case' bag=>refine' Zbk (i:=1) ?bai ?baj ?bak ?bal
 case bai=>exact nd
 case baj=>exact rfl
 case bak=>exact (Or.inl rfl)
 case' bal=>refine' ZdG ?bam ?ban ?bao ?bap
 case bam=>exact Cread_numbers
 case ban=>exact (hr.mono (by first|decide|lia))
 case bao=>exact (by rfl)
 case bap=>exact (Zap (Zau (k_sl (K:=K) rfl) (pv 0) ZaG (ZaB Zaa)) (Zaf Zaa Zab))
 case' bah=>refine' Zag ?baq
 case' baq=>refine' ZaD ?bar
 case' bar=>refine' Zbb ?bas
 case' bas=>refine' Zap ?bat ?bau
 case bat=>exact (Zao (k_ix (K:=K) rfl) (pv 1) Zaa (fun _ _=>rfl))
 case' bau=>refine' Zay ?bav ?baw
 case bav=>exact (ZdG Cread_forms (hr.mono (by first|decide|lia)) (by rfl) (Zap (Zau (k_sl (K:=K) rfl) (pv 0) (ZaB Zaa) ZaG) Zab))
 case baw=>exact (Zap (Zao (k_ix (K:=K) rfl) (pv 1) Zaa (fun _ _=>rfl)) Zab)
 obtain ⟨w0,wr,rfl⟩:∃ w0 wr,ws=w0::wr:=by
  cases ws with
  | nil=>exact absurd rfl hne
  | cons x r=>exact ⟨x,r,rfl⟩
 walk_at"rd"
 refine Zaj ha (v:=.str w0) (Zan (n:=0) rfl rfl) ?_
 walk_at"rd"
 refine ZdJ (fun h1=>?_) (fun h1=>?_)
 ·walk_at"rd"
  refine ⟨by decide,no ?_ _ (Same.refl _)⟩
  unfold Zcv
  rw [if_neg]
  intro e
  exact h1 (Option.some.inj e)
 have eP:Zcv (w0::wr)=(both Prod.mk (Zbm 2 ((w0::wr).take 3)) (ZeW ((w0::wr).drop 3))).bind fun q=>ZmK q.1 q.2:=by
  unfold Zcv
  rw [if_pos (show (w0::wr).head?=some ZaY from congrArg some h1)]
 generalize w0::wr=ws at *
 walk_at"rd"
 refine Zcx (SqL.of ha) fun p1 hp1=>?_
 rw [show cutV (ws.map V.str) none (some 3)=(ws.take 3).map V.str by rw [show (3:Int)=((3:Nat):Int) from rfl,ZkS,map_take]]
 have s1:=Same.new (o:=.lst ((ws.take 3).map V.str)) hp1
 have e1:upd H p1 (.lst ((ws.take 3).map V.str)) p1=some (.lst ((ws.take 3).map V.str)):=Zad
 generalize upd H p1 (.lst ((ws.take 3).map V.str))=H1 at s1 e1
 walk_at"rd"
 refine ZiL ⟨p1,_,2,rfl,rfl,e1,wo.take 3,fun ns hns p2 H2 e2 s2=>?_,fun hn H2 s2=>no (by rw [eP,hn];rfl) _ (s1.trans s2)⟩
 obtain ⟨n,m,rfl⟩:=ZdS hns
 walk_at"rd"
 refine Zaj e2 (v:=.int n) (Zan (n:=0) rfl rfl) ?_
 walk_at"rd"
 refine Zcx (SqL.of ((s1.trans s2) _ _ ha)) fun p3 hp3=>?_
 rw [show cutV (ws.map V.str) (some 3) none=(ws.drop 3).map V.str by rw [show (3:Int)=((3:Nat):Int) from rfl,Zes,map_drop]]
 have s3:=Same.new (o:=.lst ((ws.drop 3).map V.str)) hp3
 have e3:upd H2 p3 (.lst ((ws.drop 3).map V.str)) p3=some (.lst ((ws.drop 3).map V.str)):=Zad
 generalize upd H2 p3 (.lst ((ws.drop 3).map V.str))=H3 at s3 e3
 have s13:=(s1.trans s2).trans s3
 walk_at"rd"
 refine ZeY ⟨p3,_,rfl,e3,wo.drop 3,fun fs hfs v H4 rv s4=>?_,fun hn H4 s4=>no (by rw [eP,hns,hn];rfl) _ (s13.trans s4)⟩
 walk_at"rd"
 refine Zaj ((s3.trans s4) _ _ e2) (v:=.int m) (Zan (n:=1) rfl rfl) ?_
 walk_at"rd"
 walk_at"mk";intro p5 hp5
 have s5:=Same.new (o:=.tup [V.int n,v,V.int m]) hp5
 exact k (n,fs,m) (by rw [eP,hns,hfs];rfl) (.ref p5) _ (ZaZ Zad (Zai Za9 (Zai (rv.mono s5.ts) (Zai Za9 Zaq)))) ((s13.trans s4).trans s5)
inductive Pr_read_frame (C:Addr) (x:V) (H:Hp) (Q:VK) (E:XK):Prop
 | mk (a ws) (_:x=.ref a) (_:H a=some (.lst (ws.map V.str))) (_:WsOk ws) (_:ws≠[]) (_:∀ e,Zb3 ws=some e->∀ v H',Rep H' (Zcp e) v->Same H H'->Q v H') (_:Zb3 ws=none->∀ H',Same H H'->E (.ref C) none H'):Pr_read_frame C x H Q E
noncomputable def Zea (C:Addr):Sp:=spX1 (Pr_read_frame C)
theorem sc_read_frame:FnScope ["words","numbers"] ["words"] (Zam ZcM):=⟨rfl,rfl,rfl,by decide +kernel,rfl,by decide +kernel,by decide +kernel⟩
theorem Zhr (B:Blt mg) (G:Glb K w mg) (HX:ExH K mg Zah ZaA Zav ZaU) (T_read_frame:TopFn K mg "read_frame" ZcM ["words"]) (Cread_numbers:CalleeX P w K mg base Zah "read_numbers" 3 ["words","many"] (ZbC Zah)) (Cread_forms:CalleeX P w K mg base Zah "read_forms" 5 ["words"] (Zdc Zah)):CalleeX P w K mg base Zah "read_frame" 6 ["words"] (Zea Zah):=by
 refine T_read_frame.okX1 sc_read_frame fun f cdv A outer s H v1 Q E hr h=>?_
 have nd:=sc_read_frame.nd
 obtain ⟨a,ws,rfl,ha,wo,hne,k,no⟩:=h
 refine' Zb2 [some (.ref a),none] rfl ?hb ?hg
 case' hb=>refine' Zae ?bab ?bac
 case' bab=>refine' Zbk (i:=1) ?bad ?bae ?baf ?bag
 case bad=>exact nd
 case bae=>exact rfl
 case baf=>exact (Or.inl rfl)
 case' bag=>refine' ZdG ?bah ?bai ?baj ?bak
 case bah=>exact Cread_numbers
 case bai=>exact (hr.mono (by first|decide|lia))
 case baj=>exact (by rfl)
 case bak=>exact (Zap (Zau (k_sl (K:=K) rfl) (pv 0) ZaG (ZaB Zaa)) (Zaf Zaa Zab))
 case' bac=>refine' Zag ?bal
 case' bal=>refine' ZaD ?bam
 case' bam=>refine' Zbb ?ban
 case' ban=>refine' Zap ?bao ?bap
 case bao=>exact (Zao (k_ix (K:=K) rfl) (pv 1) Zaa (fun _ _=>rfl))
 case' bap=>refine' Zap ?baq ?bar
 case baq=>exact (Zao (k_ix (K:=K) rfl) (pv 1) Zaa (fun _ _=>rfl))
 case' bar=>refine' Zay ?bas ?bat
 case bas=>exact (ZdG Cread_forms (hr.mono (by first|decide|lia)) (by rfl) (Zap (Zau (k_sl (K:=K) rfl) (pv 0) (ZaB Zaa) ZaG) Zab))
 case bat=>exact Zab
 have eP:Zb3 ws=(both Prod.mk (Zbm 2 (ws.take 3)) (ZeW (ws.drop 3))).bind fun q=>Zki q.1 q.2:=rfl
 walk_at"rd"
 refine Zcx (SqL.of ha) fun p1 hp1=>?_
 rw [show cutV (ws.map V.str) none (some 3)=(ws.take 3).map V.str by rw [show (3:Int)=((3:Nat):Int) from rfl,ZkS,map_take]]
 have s1:=Same.new (o:=.lst ((ws.take 3).map V.str)) hp1
 have e1:upd H p1 (.lst ((ws.take 3).map V.str)) p1=some (.lst ((ws.take 3).map V.str)):=Zad
 generalize upd H p1 (.lst ((ws.take 3).map V.str))=H1 at s1 e1
 walk_at"rd"
 refine ZiL ⟨p1,_,2,rfl,rfl,e1,wo.take 3,fun ns hns p2 H2 e2 s2=>?_,fun hn H2 s2=>no (by rw [eP,hn];rfl) _ (s1.trans s2)⟩
 obtain ⟨n,m,rfl⟩:=ZdS hns
 walk_at"rd"
 refine Zaj e2 (v:=.int n) (Zan (n:=0) rfl rfl) ?_
 walk_at"rd"
 refine Zaj e2 (v:=.int m) (Zan (n:=1) rfl rfl) ?_
 walk_at"rd"
 refine Zcx (SqL.of ((s1.trans s2) _ _ ha)) fun p3 hp3=>?_
 rw [show cutV (ws.map V.str) (some 3) none=(ws.drop 3).map V.str by rw [show (3:Int)=((3:Nat):Int) from rfl,Zes,map_drop]]
 have s3:=Same.new (o:=.lst ((ws.drop 3).map V.str)) hp3
 have e3:upd H2 p3 (.lst ((ws.drop 3).map V.str)) p3=some (.lst ((ws.drop 3).map V.str)):=Zad
 generalize upd H2 p3 (.lst ((ws.drop 3).map V.str))=H3 at s3 e3
 have s13:=(s1.trans s2).trans s3
 walk_at"rd"
 refine ZeY ⟨p3,_,rfl,e3,wo.drop 3,fun fs hfs v H4 rv s4=>?_,fun hn H4 s4=>no (by rw [eP,hns,hn];rfl) _ (s13.trans s4)⟩
 walk_at"rd"
 walk_at"mk";intro p5 hp5
 have s5:=Same.new (o:=.tup [V.int n,V.int m,v]) hp5
 exact k (n,m,fs) (by rw [eP,hns,hfs];rfl) (.ref p5) _ (ZaZ Zad (Zai Za9 (Zai Za9 (Zai (rv.mono s5.ts) Zaq)))) ((s13.trans s4).trans s5)
end
end
end My
end
section
namespace My
open PySem L2
section
variable {P:Program} {w:World} {K:PySem.W.Frag} {mg:Str->Option Value} {base:Heap}
noncomputable def LsAt (H:Hp) (lss:List (List Str)) (vs:List V):Prop:=lss.length=vs.length/\∀ (i:Nat) ws v,lss[i]?=some ws->vs[i]?=some v->∃ a,v=.ref a/\H a=some (.lst (ws.map V.str))
theorem LsAt.mono {H H':Hp} {lss:List (List Str)} {vs:List V} (h:LsAt H lss vs) (s:Same H H'):LsAt H' lss vs:=⟨h.1,fun i ws v h1 h2=>by
 obtain ⟨a,e,ha⟩:=h.2 i ws v h1 h2
 exact ⟨a,e,s _ _ ha⟩⟩
theorem LsAt.get {H:Hp} {lss:List (List Str)} {vs:List V} {i:Nat} {v:V} (h:LsAt H lss vs) (hv:vs[i]?=some v):∃ ws a,lss[i]?=some ws/\v=.ref a/\H a=some (.lst (ws.map V.str)):=by
 have lt:=(List.getElem?_eq_some_iff.mp hv).1
 have hw:lss[i]?=some (lss[i]'(by rw [h.1];exact lt)):=getElem?_eq_getElem _
 obtain ⟨a,e,ha⟩:=h.2 i _ v hw hv
 exact ⟨_,a,hw,e,ha⟩
theorem LsAt.drop {H:Hp} {lss:List (List Str)} {vs:List V} (h:LsAt H lss vs) (k:Nat):LsAt H (lss.drop k) (vs.drop k):=⟨by rw [length_drop,length_drop,h.1],fun i ws v h1 h2=>by
 rw [getElem?_drop] at h1 h2
 exact h.2 _ ws v h1 h2⟩
theorem LsAt.take {H:Hp} {lss:List (List Str)} {vs:List V} (h:LsAt H lss vs) (k:Nat):LsAt H (lss.take k) (vs.take k):=⟨by rw [length_take,length_take,h.1],fun i ws v h1 h2=>by
 rw [getElem?_take] at h1 h2
 split at h1
 ·next e=>rw [if_pos e] at h2;exact h.2 _ ws v h1 h2
 ·cases h1⟩
noncomputable def LsOk (lss:List (List Str)):Prop:=lss.length<=1000000/\∀ l∈lss,WsOk l/\l≠[]
theorem LsOk.drop {lss:List (List Str)} (h:LsOk lss) (k:Nat):LsOk (lss.drop k):=⟨by have:=h.1;rw [length_drop];lia,fun l hl=>h.2 l (mem_of_mem_drop hl)⟩
theorem LsOk.take {lss:List (List Str)} (h:LsOk lss) (k:Nat):LsOk (lss.take k):=⟨by have:=h.1;rw [length_take];lia,fun l hl=>h.2 l (mem_of_mem_take hl)⟩
theorem Zed {H:Hp}:∀ (ns:List Int),Reps H (ns.map D.int) (ns.map V.int)
 | []=>Zaq
 | n::ns=>Zai Za9 (Zed ns)
theorem Ziv {k:Nat} {ws:List Str} {ns:List Int} (h:Zbm k ws=some ns):ns.length=k:=by
 unfold Zbm at h
 split at h
 ·next e =>
  have hl:=(Zck h).1
  rw [length_drop,e] at hl
  lia
 ·cases h
section
variable {Zah ZaA Zav ZaU:Addr}
inductive Pr_read_deed (C:Addr) (x y:V) (H:Hp) (Q:VK) (E:XK):Prop
 | mk (a ws b lss vs) (_:x=.ref a) (_:y=.ref b) (_:H a=some (.lst (ws.map V.str))) (_:WsOk ws) (_:ws≠[]) (_:H b=some (.lst vs)) (_:LsAt H lss vs) (_:LsOk lss) (_:∀ d,ZdV ws lss=some d->∀ v H',Rep H' (ZdM d) v->Same H H'->Q v H') (_:ZdV ws lss=none->∀ H',Same H H'->E (.ref C) none H'):Pr_read_deed C x y H Q E
noncomputable def ZeP (C:Addr):Sp:=spX2 (Pr_read_deed C)
theorem sc_read_deed:FnScope ["words","lines","parts","numbers"] ["words","lines"] (Zam Zdh):=⟨rfl,rfl,rfl,by decide +kernel,rfl,by decide +kernel,by decide +kernel⟩
theorem Zh1 (B : Blt mg) (G : Glb K w mg) (HX : ExH K mg Zah ZaA Zav ZaU) (T_read_deed : TopFn K mg "read_deed" Zdh ["words", "lines"]) (Cread_numbers : CalleeX P w K mg base Zah "read_numbers" 3 ["words", "many"] (ZbC Zah)) (Cread_edge : CalleeX P w K mg base Zah "read_edge" 6 ["words"] (ZeO Zah)) : CalleeX P w K mg base Zah "read_deed" 7 ["words", "lines"] (ZeP Zah) := by
  refine T_read_deed.okX2 sc_read_deed fun f cdv A outer s H v1 v2 Q E hr h => ?_
  have nd := sc_read_deed.nd
  obtain ⟨a, ws, b, lss, vs, rfl, rfl, ha, wo, hne, hb, la, lo, k, no⟩ := h
  obtain ⟨w0, wr, rfl⟩ : ∃ w0 wr, ws = w0 :: wr := by
    cases ws with
    | nil => exact absurd rfl hne
    | cons x r => exact ⟨x, r, rfl⟩
  refine' Zb2 [some (.ref a), some (.ref b), none, none] rfl ?hb ?hg
  case' hb => refine' Zae ?bab ?bac
  case' bab => refine' Za1 ?bad ?bae ?baf
  case' bad => refine' Zal ?bag ?bah ?bai ?baj
  case bag => exact (ZlT (K := K) (w := w) (tb := deedT) rfl rfl)
  case bah => exact (Zao (k_ix (K := K) rfl) (pv 0) Zaa (fun _ _ => rfl))
  case bai => exact (ZmI (K := K) (w := w) (by rfl) G.c_DEED_PARTS)
  case baj => exact (by with_unfolding_all rfl)
  case bae => exact (Zag (Zct (by rfl) HX.m_NoText HX.exc (Zaf Zak Zab)))
  case baf => exact Zaz
  case' bac => refine' Zae ?bak ?bal
  case' bak => refine' Zfo (i := 2) ?bam ?ban ?bao ?bap
  case bam => exact nd
  case ban => exact rfl
  case bao => exact (Or.inl rfl)
  case' bap => refine' Zj1 (K := K) (w := w) (tb := deedT) ?baq ?bar ?bas ?bat ?bau
  case baq => exact rfl
  case bar => exact rfl
  case bas => exact (ZmI (K := K) (w := w) (by rfl) G.c_DEED_PARTS)
  case bat => exact (Zao (k_ix (K := K) rfl) (pv 0) Zaa (fun _ _ => rfl))
  case bau => exact (fun _ _ => rfl)
  case' bal => refine' Zae ?bav ?baw
  case' bav => refine' Zbk (i := 3) ?bax ?bay ?baz ?bba
  case bax => exact nd
  case bay => exact rfl
  case baz => exact (Or.inl rfl)
  case' bba => refine' ZdG ?bbb ?bbc ?bbd ?bbe
  case bbb => exact Cread_numbers
  case bbc => exact (hr.mono (by first | decide | lia))
  case bbd => exact (by rfl)
  case' bbe => refine' Zac ?bbf ?bbg
  case bbf => exact (pv 0)
  case' bbg => refine' Zay ?bbh ?bbi
  case bbh => exact (k_bm (K := K) rfl PySem.F.plainAttrs_tuple PySem.F.slot_tuple_count PySem.F.type_tuple_count (Zkt (K := K) rfl) (pv 2) (Zaf Zak Zab))
  case bbi => exact Zab
  case' baw => refine' Zae ?bbj ?bbk
  case' bbj => refine' Za1 ?bbl ?bbm ?bbn
  case' bbl => refine' Zal ?bbo ?bbp ?bbq ?bbr
  case bbo => exact Ze0
  case bbp => exact (Zaw (Zcu (K := K) rfl) (by rfl) B.b_len ZbA (Zac (pv 1) Zab))
  case bbq => exact (k_bm (K := K) rfl PySem.F.plainAttrs_tuple PySem.F.slot_tuple_count PySem.F.type_tuple_count (Zkt (K := K) rfl) (pv 2) (Zaf Zak Zab))
  case bbr => exact (Zas _)
  case bbm => exact (Zag (Zct (by rfl) HX.m_NoText HX.exc (Zaf Zak Zab)))
  case bbn => exact Zaz
  case' bbk => refine' Zag ?bbs
  case' bbs => refine' ZaD ?bbt
  case' bbt => refine' Zar ?bbu ?bbv ?bbw
  case bbu => exact (Zhb (K := K) rfl)
  case' bbv => refine' Zar ?bbx ?bby ?bbz
  case bbx => exact (Zhb (K := K) rfl)
  case bby => exact (Zbb (Zap (Zao (k_ix (K := K) rfl) (pv 0) Zaa (fun _ _ => rfl)) Zab))
  case bbz => exact (ZaI (Zdr (K := K) rfl) (by rfl) B.b_tuple ZbS (Zac (pv 3) Zab))
  case' bbw => refine' ZaI ?bca ?bcb ?bcc ?bcd ?bce
  case bca => exact (Zdr (K := K) rfl)
  case bcb => exact (by rfl)
  case bcc => exact B.b_tuple
  case bcd => exact ZbS
  case' bce => refine' ZcR ?bcf ?bcg
  case' bcf => refine' Zeh (LN := ["line"]) (FN := []) (fr := []) ?bch ?bci ?bcj ?bck ?bcl ?bcm
  case bch => exact rfl
  case bci => exact (ZdO (by rfl))
  case bcj => exact (Za4 (K := K) rfl (pv 1))
  case' bck => intro cl C fp pins s H
  case bck => exact (ZaE (i := 0) (show ((["line"] : List Str) ++ ([] : List Str)).Nodup by decide +kernel) rfl (Or.inl rfl))
  case' bcl => intro cl C fp pins s H
  case bcl => exact ZbY
  case' bcm => intro cl C fp pins s H hin
  case bcm => exact (ZeG hin Cread_edge (hr.mono (by first | decide | lia)) (by rfl) (Zac (pv 0) Zab))
  case bcg => exact Zab
  walk_at"rd"
  refine Zaj ha (v := .str w0) (Zan (n := 0) rfl rfl) ?_
  walk_at"rd"
  refine ZmD fun cd hcd => ?_
  refine Zlt hcd.cd ?_
  walk_at"rd"
  cases lk : deedT.lookup w0 with
  | none =>
    refine ZhS rfl ?_
    walk_at"rd"
    exact ⟨by decide, no (by unfold ZdV; dsimp only; rw [lk]) _ (Same.refl _)⟩
  | some ks =>
    refine Zhg rfl ?_
    have eP : ZdV (w0 :: wr) lss = match Zbm (ks.countP (· == Zbs)) (w0 :: wr) with | none => none | some ns => if lss.length = ks.countP (· == ZaY) then (lss.mapM Zcv).map fun es => (w0, ns, es) else none := by unfold ZdV; dsimp only; rw [lk]; try rfl
    have hks : ks.length <= 3 := by
      have hm : ∀ (l : List (Str × List Str)), l.lookup w0 = some ks -> (∀ q ∈ l, q.2.length <= 3) -> ks.length <= 3 := by
        intro l
        induction l with
        | nil => intro h; cases h
        | cons q l ih =>
          obtain ⟨x, y⟩ := q
          intro h hq
          rw [lookup_cons] at h
          split at h
          · cases h; exact hq _ mem_cons_self
          · exact ih h fun q hq' => hq q (mem_cons_of_mem _ hq')
      exact hm _ lk (by decide)
    have hc3 : ks.countP (· == Zbs) <= 3 := Nat.le_trans countP_le_length hks
    walk_at"rd"
    refine ZmD fun cd2 hcd2 => ?_
    walk_at"rd"
    refine Zaj ha (v := .str w0) (Zan (n := 0) rfl rfl) ?_
    walk_at"rd"
    refine Zom hcd2 lk fun tb htb => ?_
    walk_at"rd"
    refine ⟨.inr (.inl ⟨rfl, htb.2⟩), ?_⟩
    walk_at"rd"
    refine Zin (htb.1.sq _) ?_
    walk_at"rd"
    refine ZiL ⟨a, _, _, rfl, rfl, ha, wo, fun ns hns p2 H2 e2 s2 => ?_, fun hn H2 s2 => no (by rw [eP, show Zbm (ks.countP (· == Zbs)) (w0 :: wr) = none from hn]) _ s2⟩
    have hns : Zbm (ks.countP (· == Zbs)) (w0 :: wr) = some ns := hns
    have hnl := Ziv hns
    have eP : ZdV (w0 :: wr) lss = if lss.length = ks.countP (· == ZaY) then (lss.mapM Zcv).map fun es => (w0, ns, es) else none := by rw [eP, hns]
    walk_at"rd"
    refine Zbf (SqL.of (s2 _ _ hb)) ?_
    walk_at"rd"
    refine ⟨.inr (.inl ⟨rfl, htb.2⟩), ?_⟩
    walk_at"rd"
    refine Zin (htb.1.sq _) ?_
    walk_at"rd"
    rw [<- la.1]
    refine ZdJ (fun h1 => ?_) (fun h1 => ?_)
    · walk_at"rd"
      refine ⟨by decide, no ?_ _ s2⟩
      rw [eP, if_neg]
      intro e
      exact h1 (by rw [e]; rfl)
    have h1 : lss.length = ks.countP (· == ZaY) := Int.ofNat.inj h1
    rw [if_pos h1] at eP
    walk_at"rd"
    refine Zaj (s2 _ _ ha) (v := .str w0) (Zan (n := 0) rfl rfl) ?_
    walk_at"rd"
    walk_at"mk"; intro p3 hp3
    have s3 := Same.new (o := .tup [V.str w0]) hp3
    have e3 : upd H2 p3 (.tup [V.str w0]) p3 = some (.tup [V.str w0]) := Zad
    generalize upd H2 p3 (.tup [V.str w0]) = H3 at s3 e3
    walk_at"rd"
    refine Zdl (SqL.of (s3 _ _ e2)) fun p4 hp4 => ?_
    have s4 := Same.new (o := .tup (ns.map V.int)) hp4
    have e4 : upd H3 p4 (.tup (ns.map V.int)) p4 = some (.tup (ns.map V.int)) := Zad
    generalize upd H3 p4 (.tup (ns.map V.int)) = H4 at s4 e4
    refine Zfn (s4 _ _ e3) e4 (by rw [length_map]; simp only [length_cons, length_nil]; lia) fun p5 H5 hp5 s5 => ?_
    walk_at"rd"
    have s25 := ((s2.trans s3).trans s4).trans s5
    refine Zb4 (SqL.of (s25 _ _ hb)) ?_
    have hl3 : vs.length <= 3 := by
      rw [<- la.1, h1]
      exact Nat.le_trans countP_le_length hks
    refine Zds (xs := vs) (ZaN (by lia)) (fun j ys σ Hy => An3 (∃ x1, σ = [x1]) (Same H5 Hy) (∃ qs, (lss.take j).mapM Zcv = some qs /\ Reps Hy (qs.map ZcY) ys)) ⟨⟨none, rfl⟩, Same.refl _, [], rfl, Zaq⟩ (fun j ys σ Hy _ z_ => by obtain ⟨_, s6, _⟩ := z_; exact SqL.of ((s25.trans s6) _ _ hb)) ?_ ?_
    · rintro j y ys σ Hy hx hle hlt ⟨⟨x1, rfl⟩, s6, qs, hqs, rq⟩
      obtain ⟨wl, al, ew, rfl, hal⟩ := la.get hx
      obtain ⟨wk, wn⟩ := lo.2 wl (mem_of_getElem? ew)
      have nx := ZcA (f := Zcv) ew hqs
      walk_at"rd"
      refine ZeY ⟨al, wl, rfl, (s25.trans s6) _ _ hal, wk, wn, fun q hq v H7 rv s7 => ?_, fun hq H7 s7 => no (by rw [eP, ZcB (i := j + 1) (by rw [nx, hq]; rfl)]; rfl) _ ((s25.trans s6).trans s7)⟩
      refine ⟨hlt, by simpa using hle, ⟨_, rfl⟩, s6.trans s7, qs ++ [q], by rw [nx, hq]; rfl, ?_⟩
      rw [map_append]
      exact Reps.append (rq.mono s7.ts) (Zai rv Zaq)
    rintro ys σ Hy hyy ⟨⟨x1, rfl⟩, s6, qs, hqs, rq⟩ p7 hp7
    rw [<- la.1, take_length] at hqs
    have hyl := rq.length
    rw [length_map] at hyl
    have hql := (Zck hqs).1
    have s7 := Same.new (o := .lst ys) hp7
    have e7 : upd Hy p7 (.lst ys) p7 = some (.lst ys) := Zad
    generalize upd Hy p7 (.lst ys) = H7 at s7 e7
    walk_at"rd"
    refine Zdl (SqL.of e7) fun p8 hp8 => ?_
    have s8 := Same.new (o := .tup ys) hp8
    have e8 : upd H7 p8 (.tup ys) p8 = some (.tup ys) := Zad
    generalize upd H7 p8 (.tup ys) = H8 at s8 e8
    have s58 := (s6.trans s7).trans s8
    have h13 := la.1
    refine Zfn (s58 _ _ hp5) e8 (by simp only [length_append, length_map, length_cons, length_nil]; lia) fun p9 H9 hp9 s9 => ?_
    refine k (w0, ns, qs) (by rw [eP, hqs]; rfl) (.ref p9) H9 ?_ ((s25.trans s58).trans s9)
    refine ZaZ hp9 ?_
    show Reps H9 (D.str w0 :: (ns.map D.int ++ qs.map ZcY)) (V.str w0 :: (ns.map V.int ++ ys))
    exact Zai (by rw [Rep]) (Reps.append (Zed ns) (rq.mono ((s7.trans s8).trans s9).ts))
end
end
end My
end
section
namespace My
open PySem L2
section
variable {P:Program} {w:World} {K:PySem.W.Frag} {mg:Str->Option Value} {base:Heap}
inductive StandAt (H:Hp) (st:ZaO) (v:V):Prop
 | mk (t l ys vd) (_:v=.ref t) (_:H t=some (.tup [.int st.1,.ref l,vd])) (_:H l=some (.lst ys)) (_:Reps H (st.2.1.map Zcp) ys) (_:Rep H (ZdM st.2.2) vd):StandAt H st v
theorem StandAt.mono {H H':Hp} {st:ZaO} {v:V} (h:StandAt H st v) (s:Same H H'):StandAt H' st v:=by
 obtain ⟨t,l,ys,vd,e,h1,h2,h3,h4⟩:=h
 exact ⟨t,l,ys,vd,e,s _ _ h1,s _ _ h2,h3.mono s.ts,h4.mono s.ts⟩
theorem Ziu {ws:List Str} {ns:List Int} (h:Zbm 1 ws=some ns):∃ a,ns=[a]:=by
 have:=Ziv h
 rcases ns with _|⟨a,_|⟨b,r⟩⟩
 ·cases this
 ·exact ⟨a,rfl⟩
 ·simp at this
theorem tw_cut {α : Type} {p : α -> Bool} {l : List α} {j : Nat} (h1 : ∀ i x, i < j -> l[i]? = some x -> p x = true) (h2 : ∀ x, l[j]? = some x -> p x = false) (hj : j <= l.length) : l.takeWhile p = l.take j /\ l.dropWhile p = l.drop j := by
  induction l generalizing j with
  | nil => simp at hj; subst hj; exact ⟨rfl, rfl⟩
  | cons a l ih =>
    cases j with
    | zero =>
      have := h2 a rfl
      exact ⟨by rw [takeWhile_cons, this]; rfl, by rw [dropWhile_cons, this]; rfl⟩
    | succ j =>
      have ha := h1 0 a (by lia) rfl
      obtain ⟨e1, e2⟩ := ih (j := j) (fun i x hi hx => h1 (i + 1) x (by lia) hx) (fun x hx => h2 x hx) (by simp at hj; lia)
      exact ⟨by rw [takeWhile_cons, ha]; simp [e1], by rw [dropWhile_cons, ha]; simp [e2]⟩
theorem Zlv {t t2:TS} {D':Ends} {σ:St} {H:Hp} (I:St->Hp->Prop) (hI:∀ σ' H',I σ' H'->t2 D' σ' H') (h:∀ N:St->Hp->Prop,(∀ σ' H',I σ' H'->N σ' H')->t { D' with nx:=N } σ H):tSeq t t2 D' σ H:=h _ hI
section
variable {Zah ZaA Zav ZaU:Addr}
inductive Pr_read_stand (C:Addr) (x:V) (H:Hp) (Q:VK) (E:XK):Prop
 | mk (a gr vs) (_:x=.ref a) (_:H a=some (.lst vs)) (_:LsAt H gr vs) (_:LsOk gr) (_:gr≠[]) (_:∀ st,Zbv gr=some st->∀ v H',StandAt H' st v->Same H H'->Q v H') (_:Zbv gr=none->∀ H',Same H H'->E (.ref C) none H'):Pr_read_stand C x H Q E
noncomputable def Zd9 (C:Addr):Sp:=spX1 (Pr_read_stand C)
theorem sc_read_stand:FnScope ["group","many","frames","paper"] ["group"] (Zam ZcL):=⟨rfl,rfl,rfl,by decide +kernel,rfl,by decide +kernel,by decide +kernel⟩
theorem Zhq (B:Blt mg) (G:Glb K w mg) (HX:ExH K mg Zah ZaA Zav ZaU) (T_read_stand:TopFn K mg "read_stand" ZcL ["group"]) (Cread_numbers:CalleeX P w K mg base Zah "read_numbers" 3 ["words","many"] (ZbC Zah)) (Cread_frame:CalleeX P w K mg base Zah "read_frame" 6 ["words"] (Zea Zah)) (Cread_deed:CalleeX P w K mg base Zah "read_deed" 7 ["words","lines"] (ZeP Zah)):CalleeX P w K mg base Zah "read_stand" 8 ["group"] (Zd9 Zah):=by
 refine T_read_stand.okX1 sc_read_stand fun f cdv A outer s H v1 Q E hr h=>?_
 have nd:=sc_read_stand.nd
 obtain ⟨a,gr,vs,rfl,ha,la,lo,hne,k,no⟩:=h
 obtain ⟨g0,rest,rfl⟩:∃ g0 rest,gr=g0::rest:=by
  cases gr with
  | nil=>exact absurd rfl hne
  | cons x r=>exact ⟨x,r,rfl⟩
 have hvl:=la.1
 have h1m:=lo.1
 obtain ⟨v0,vr,rfl⟩:∃ v0 vr,vs=v0::vr:=by
  cases vs with
  | nil=>cases hvl
  | cons x r=>exact ⟨x,r,rfl⟩
 obtain ⟨a0,rfl,ha0⟩:=la.2 0 g0 v0 rfl rfl
 obtain ⟨wk0,_⟩:=lo.2 g0 mem_cons_self
 have lar:LsAt H rest vr:=la.drop 1
 have lor:LsOk rest:=lo.drop 1
 have hrl:=lar.1
 refine' Zb2 [some (.ref a),none,none,none] rfl ?hb ?hg
 case' hb=>refine' Zae ?bab ?bac
 case' bab=>refine' Zfo (i:=1) ?bad ?bae ?baf ?bag
 case bad=>exact nd
 case bae=>exact rfl
 case baf=>exact (Or.inl rfl)
 case' bag=>refine' Zao ?bah ?bai ?baj ?bak
 case bah=>exact (k_ix (K:=K) rfl)
 case' bai=>refine' ZdG ?bal ?bam ?ban ?bao
 case bal=>exact Cread_numbers
 case bam=>exact (hr.mono (by first|decide|lia))
 case ban=>exact (by rfl)
 case bao=>exact (Zap (Zao (k_ix (K:=K) rfl) (pv 0) Zaa (fun _ _=>rfl)) (Zaf Zaa Zab))
 case baj=>exact Zaa
 case bak=>exact (fun _ _=>rfl)
 case' bac=>refine' Zae ?bap ?baq
 case bap=>exact (Zc2 (i:=2) nd rfl (Or.inl rfl) Zaa)
 case' baq=>refine' Zae ?bar ?bas
 case' bar=>refine' ZlI ?bat ?bau ?bav
 case bat=>exact PassesOwn.leaving
 case' bau=>refine' PW.pt ?baw
 case' baw=>refine' ZcP ?bax ?bay
 case bax=>exact (Zal ZlU (pv 2) (Zaw (Zcu (K:=K) rfl) (by rfl) B.b_len ZbA (Zac (pv 0) Zab)) (Zas _))
 case' bay=>refine' ZbX ?baz
 case baz=>exact (Zal Zbc (Zao (k_ix (K:=K) rfl) (Zao (k_ix (K:=K) rfl) (pv 0) (pv 2) (fun _ _=>rfl)) Zaa (fun _ _=>rfl)) Zak (Zas _))
 case bav=>exact (Zag (Zbr (i:=2) nd rfl (Or.inl rfl) (Zar ZbE (pv 2) Zaa)))
 case' bas=>refine' Zae ?bba ?bbb
 case' bba=>refine' Za1 ?bbc ?bbd ?bbe
 case bbc=>exact (Zal Zbc (pv 2) (Zaw (Zcu (K:=K) rfl) (by rfl) B.b_len ZbA (Zac (pv 0) Zab)) (Zas _))
 case bbd=>exact (Zag (Zct (by rfl) HX.m_NoText HX.exc (Zaf Zak Zab)))
 case bbe=>exact Zaz
 case' bbb=>refine' Zae ?bbf ?bbg
 case' bbf=>refine' ZlJ (i:=3) (LN:=["words"]) (FN:=[]) (fr:=[]) ?bbh ?bbi ?bbj ?bbk ?bbl ?bbm ?bbn ?bbo ?bbp
 case bbh=>exact rfl
 case bbi=>exact nd
 case bbj=>exact rfl
 case bbk=>exact rfl
 case bbl=>exact (ZdO (by rfl))
 case bbm=>exact (Za4 (K:=K) rfl (Zau (k_sl (K:=K) rfl) (pv 0) (ZaB Zaa) (ZaB (pv 2))))
 case' bbn=>intro cl C fp pins s H
 case bbn=>exact (ZaE (i:=0) (show ((["words"]:List Str)++([]:List Str)).Nodup by decide +kernel) rfl (Or.inl rfl))
 case' bbo=>intro cl C fp pins s H
 case bbo=>exact ZbY
 case' bbp=>intro cl C fp pins s H hin
 case bbp=>exact (ZeG hin Cread_frame (hr.mono (by first|decide|lia)) (by rfl) (Zac (pv 0) Zab))
 case' bbg=>refine' Zag ?bbq
 case' bbq=>refine' ZaD ?bbr
 case' bbr=>refine' Zbb ?bbs
 case' bbs=>refine' Zac ?bbt ?bbu
 case bbt=>exact (pv 1)
 case' bbu=>refine' Zac ?bbv ?bbw
 case bbv=>exact (pv 3)
 case' bbw=>refine' Zay ?bbx ?bby
 case' bbx=>refine' ZdG ?bbz ?bca ?bcb ?bcc
 case bbz=>exact Cread_deed
 case bca=>exact (hr.mono (by first|decide|lia))
 case bcb=>exact (by rfl)
 case' bcc=>refine' Zap ?bcd ?bce
 case bcd=>exact (Zao (k_ix (K:=K) rfl) (pv 0) (pv 2) (fun _ _=>rfl))
 case bce=>exact (Zap (Zau (k_sl (K:=K) rfl) (pv 0) (ZaB (Zar ZbE (pv 2) Zaa)) ZaG) Zab)
 case bby=>exact Zab
 walk_at"rd"
 refine Zaj ha (v:=.ref a0) (Zan (n:=0) rfl rfl) ?_
 walk_at"rd"
 refine ZiL ⟨a0,g0,1,rfl,rfl,ha0,wk0,fun ns hns p1 H1 e1 s1=>?_,fun hn H1 s1=>no (by unfold Zbv;dsimp only;rw [hn]) _ s1⟩
 obtain ⟨n,rfl⟩:=Ziu hns
 have eP:Zbv (g0::rest)=Zff n (rest.takeWhile ZaT) (rest.dropWhile ZaT):=by
  unfold Zbv
  dsimp only
  rw [hns]
  rfl
 walk_at"rd"
 refine Zaj e1 (v:=.int n) (Zan (n:=0) rfl rfl) ?_
 refine Zcc ?_
 try dsimp +zetaDelta only
 refine Zf3 ?_
 refine Zio ?_
 refine rd_c ?_
 refine Zcc ?_
 try dsimp +zetaDelta only
 have stop:∀ j:Nat,j<=rest.length->(∀ i x,i < j->rest[i]?=some x->ZaT x=true)->(∀ x,rest[j]?=some x->ZaT x=false)->Zbv (g0::rest)=Zff n (rest.take j) (rest.drop j):=fun j hj hall h2=>by
  obtain ⟨q1,q2⟩:=tw_cut hall h2 hj
  rw [eP,q1,q2]
 refine Zlv (fun σ' H'=>∃ j:Nat,An4 (H'=H1) (j<=rest.length) (σ'=[some (.ref a),some (.int n),some (.int ((j+1:Nat):Int)),none]) (Zbv (g0::rest)=Zff n (rest.take j) (rest.drop j))) ?_ fun N hN=>?_
 rotate_left
 ·refine ⟨fun m σ Hx=>∃ j:Nat,j+m=rest.length+1/\Hx=H1/\j<=rest.length/\σ=[some (.ref a),some (.int n),some (.int ((j+1:Nat):Int)),none]/\∀ i x,i < j->rest[i]?=some x->ZaT x=true,⟨rest.length+1,0,by lia,rfl,by lia,rfl,fun i x hi=>by lia⟩,?_⟩
  rintro m σ Hx ⟨j,hjm,rfl,hj,rfl,hall⟩
  walk_at"rd"
  refine Zbf (SqL.of (s1 _ _ ha)) ?_
  walk_at"rd"
  refine ZaS (fun h1=>?_) (fun h1=>?_)
  ·have hjl:j < rest.length:=by
    simp only [length_cons] at h1
    lia
   have hjv:j < vr.length:=by lia
   have ev:vr[j]?=some vr[j]:=getElem?_eq_getElem hjv
   obtain ⟨wl,al,ew,evl,hal⟩:=lar.get ev
   obtain ⟨wk,wn⟩:=lor.2 wl (mem_of_getElem? ew)
   rw [evl] at ev
   obtain ⟨w0,wr,rfl⟩:∃ w0 wr,wl=w0::wr:=by
    cases wl with
    | nil=>exact absurd rfl wn
    | cons x r=>exact ⟨x,r,rfl⟩
   walk_at"rd"
   refine Zaj (s1 _ _ ha) (v:=.ref al) (Zan (n:=j+1) rfl (by rw [getElem?_cons_succ];exact ev)) ?_
   walk_at"rd"
   refine Zaj (s1 _ _ hal) (v:=.str w0) (Zan (n:=0) rfl rfl) ?_
   walk_at"rd"
   by_cases hw:w0=ZaH
   ·rw [decide_eq_true (show w0=Str.ofString "frame" from hw),if_pos rfl]
    refine ⟨fun σ' H'=>∃ m',m' < m/\∃ j:Nat,j+m'=rest.length+1/\H'=Hx/\j<=rest.length/\σ'=[some (.ref a),some (.int n),some (.int ((j+1:Nat):Int)),none]/\∀ i x,i < j->rest[i]?=some x->ZaT x=true,fun σ' H' h=>h,?_⟩
    walk_at"rd"
    refine ⟨m - 1,by lia,j+1,by lia,rfl,by lia,by simp +zetaDelta,fun i x hi hx=>?_⟩
    by_cases e:i=j
    ·subst e
     rw [ew] at hx
     cases hx
     unfold ZaT
     rw [hw]
     rfl
    ·exact hall i x (by lia) hx
   ·rw [decide_eq_false (show ¬ w0=Str.ofString "frame" from hw),if_neg (by decide)]
    refine hN _ _ ⟨j,rfl,hj,rfl,stop j hj hall fun x hx=>?_⟩
    rw [ew] at hx
    cases hx
    unfold ZaT
    rw [head?_cons]
    simp [hw]
  ·have hjl:j=rest.length:=by
    simp only [length_cons] at h1
    lia
   subst hjl
   exact hN _ _ ⟨rest.length,rfl,hj,rfl,stop _ hj hall fun x hx=>by rw [getElem?_eq_none (Nat.le_refl _)] at hx;cases hx⟩
 rintro σ Hx ⟨j,rfl,hj,rfl,eQ⟩
 clear stop eP
 walk_at"rd"
 refine Zbf (SqL.of (s1 _ _ ha)) ?_
 walk_at"rd"
 refine ZaS (fun h1=>?_) (fun h1=>?_)
 ·walk_at"rd"
  refine ⟨by decide,no ?_ _ s1⟩
  have hjl:rest.length<=j:=by
   simp only [length_cons] at h1
   lia
  rw [eQ,drop_eq_nil_of_le hjl]
  rfl
 have hjl:j < rest.length:=by
  simp only [length_cons] at h1
  lia
 have hjv:j < vr.length:=by lia
 have ev:vr[j]?=some vr[j]:=getElem?_eq_getElem hjv
 obtain ⟨dw,al,ew,evl,hal⟩:=lar.get ev
 obtain ⟨wk,wn⟩:=lor.2 dw (mem_of_getElem? ew)
 rw [evl] at ev
 have ed:rest.drop j=dw::rest.drop (j+1):=by
  rw [drop_eq_getElem_cons hjl]
  congr 1
  rw [getElem?_eq_getElem hjl] at ew
  exact Option.some.inj ew
 rw [ed] at eQ
 have eQ:Zbv (g0::rest)=both (fun ps d=>(n,ps,d)) ((rest.take j).mapM Zb3) (ZdV dw (rest.drop (j+1))):=eQ
 walk_at"rd"
 refine Zcx (SqL.of (s1 _ _ ha)) fun p3 hp3=>?_
 rw [show cutV (V.ref a0::vr) (some 1) (some ((j+1:Nat):Int))=vr.take j by
  rw [show (1:Int)=((1:Nat):Int) from rfl,ZkT (by simp) (by lia)]
  rfl]
 have s3:=Same.new (o:=.lst (vr.take j)) hp3
 have e3:upd Hx p3 (.lst (vr.take j)) p3=some (.lst (vr.take j)):=Zad
 generalize upd Hx p3 (.lst (vr.take j))=H3 at s3 e3
 have s13:=s1.trans s3
 have lat:=(lar.take j).mono s13
 have lot:=lor.take j
 have htl:=lat.1
 generalize rest.take j=fr at eQ lat lot htl
 generalize vr.take j=vf at e3 lat htl
 refine Zb4 (SqL.of e3) ?_
 refine Zds (xs:=vf) (ZaN (by have:=lot.1;lia)) (fun i ys σ Hy=>An3 (∃ x1,σ=[x1]) (Same H3 Hy) (∃ qs,(fr.take i).mapM Zb3=some qs/\Reps Hy (qs.map Zcp) ys)) ⟨⟨none,rfl⟩,Same.refl _,[],rfl,Zaq⟩ (fun i ys σ Hy _ z_=>by obtain ⟨_,s6,_⟩:=z_;exact SqL.of (s6 _ _ e3)) ?_ ?_
 ·rintro i y ys σ Hy hx hle hlt ⟨⟨x1,rfl⟩,s6,qs,hqs,rq⟩
  obtain ⟨wl,al2,ew2,rfl,hal2⟩:=lat.get hx
  obtain ⟨wk2,wn2⟩:=lot.2 wl (mem_of_getElem? ew2)
  have nx:=ZcA (f:=Zb3) ew2 hqs
  walk_at"rd"
  refine ZeY ⟨al2,wl,rfl,s6 _ _ hal2,wk2,wn2,fun q hq v H7 rv s7=>?_,fun hq H7 s7=>no (by rw [eQ,ZcB (i:=i+1) (by rw [nx,hq];rfl)];rfl) _ ((s13.trans s6).trans s7)⟩
  refine ⟨hlt,by simpa using hle,⟨_,rfl⟩,s6.trans s7,qs++[q],by rw [nx,hq];rfl,?_⟩
  rw [map_append]
  exact Reps.append (rq.mono s7.ts) (Zai rv Zaq)
 rintro ys σ Hy hyy ⟨⟨x1,rfl⟩,s6,qs,hqs,rq⟩ p7 hp7
 rw [<-htl,take_length] at hqs
 have s7:=Same.new (o:=.lst ys) hp7
 have e7:upd Hy p7 (.lst ys) p7=some (.lst ys):=Zad
 generalize upd Hy p7 (.lst ys)=H7 at s7 e7
 have s17:=(s13.trans s6).trans s7
 walk_at"rd"
 refine Zaj (s17 _ _ ha) (v:=.ref al) (Zan (n:=j+1) rfl (by rw [getElem?_cons_succ];exact ev)) ?_
 walk_at"rd"
 refine Zcx (SqL.of (s17 _ _ ha)) fun p8 hp8=>?_
 rw [show cutV (V.ref a0::vr) (some (((j+1:Nat):Int)+1)) none=vr.drop (j+1) by
  rw [show (((j+1:Nat):Int)+1)=((j+2:Nat):Int) by lia,Zes]
  rfl]
 have s8:=Same.new (o:=.lst (vr.drop (j+1))) hp8
 have e8:upd H7 p8 (.lst (vr.drop (j+1))) p8=some (.lst (vr.drop (j+1))):=Zad
 generalize upd H7 p8 (.lst (vr.drop (j+1)))=H8 at s8 e8
 have s18:=s17.trans s8
 walk_at"rd"
 refine ZiL ⟨al,dw,p8,rest.drop (j+1),vr.drop (j+1),rfl,rfl,s18 _ _ hal,wk,wn,e8,(lar.drop (j+1)).mono s18,lor.drop (j+1),fun d hd v H9 rv s9=>?_,fun hd H9 s9=>no (by rw [eQ,hqs,hd];rfl) _ (s18.trans s9)⟩
 walk_at"rd"
 walk_at"mk";intro p10 hp10
 have s10:=Same.new (o:=.tup [V.int n,V.ref p7,v]) hp10
 have s810:=s8.trans (s9.trans s10)
 exact k (n,qs,d) (by rw [eQ,hqs,hd];rfl) (.ref p10) _ ⟨p10,p7,ys,v,rfl,Zad,s810 _ _ e7,rq.mono (s7.trans s810).ts,rv.mono s10.ts⟩ (s18.trans (s9.trans s10))
end
end
end My
end
section
namespace My
open PySem L2
section
variable {P:Program} {w:World} {K:PySem.W.Frag} {mg:Str->Option Value} {base:Heap}
noncomputable def LsAv (H:Hp) (av:List Addr) (lss:List (List Str)) (vs:List V):Prop:=lss.length=vs.length/\∀ (i:Nat) ws v,lss[i]?=some ws->vs[i]?=some v->∃ a,v=.ref a/\a∉av/\H a=some (.lst (ws.map V.str))
theorem LsAv.at {H:Hp} {av:List Addr} {lss:List (List Str)} {vs:List V} (h:LsAv H av lss vs):LsAt H lss vs:=⟨h.1,fun i ws v h1 h2=>by
 obtain ⟨a,e,_,ha⟩:=h.2 i ws v h1 h2
 exact ⟨a,e,ha⟩⟩
theorem LsAv.by {H H':Hp} {av av':List Addr} {lss:List (List Str)} {vs:List V} (h:LsAv H av lss vs) (k:∀ a xs,a∉av->H a=some (.lst xs)->a∉av'/\H' a=some (.lst xs)):LsAv H' av' lss vs:=⟨h.1,fun i ws v h1 h2=>by
 obtain ⟨a,e,n,ha⟩:=h.2 i ws v h1 h2
 obtain ⟨n',ha'⟩:=k a _ n ha
 exact ⟨a,e,n',ha'⟩⟩
theorem Zbn {α:Type} {l:List α} {x y:α} {i:Nat} (h:(l++[x])[i]?=some y):(i < l.length/\l[i]?=some y)\/(i=l.length/\y=x):=by
 have lt:=(List.getElem?_eq_some_iff.mp h).1
 rw [length_append,length_cons,length_nil] at lt
 by_cases q:i < l.length
 ·rw [getElem?_append_left q] at h
  exact .inl ⟨q,h⟩
 ·have:i=l.length:=by lia
  subst this
  rw [getElem?_append_right (Nat.le_refl _),Nat.sub_self] at h
  cases h
  exact .inr ⟨rfl,rfl⟩
theorem LsAv.snoc {H:Hp} {av:List Addr} {lss:List (List Str)} {vs:List V} {ws:List Str} {a:Addr} (h:LsAv H av lss vs) (n:a∉av) (ha:H a=some (.lst (ws.map V.str))):LsAv H av (lss++[ws]) (vs++[.ref a]):=⟨by simp [h.1],fun i ws' v h1 h2=>by
 have hl:=h.1
 rcases Zbn h1 with ⟨q1,e1⟩|⟨q1,e1⟩
 ·rcases Zbn h2 with ⟨q2,e2⟩|⟨q2,e2⟩
  ·exact h.2 i ws' v e1 e2
  ·lia
 ·rcases Zbn h2 with ⟨q2,e2⟩|⟨q2,e2⟩
  ·lia
  ·subst e1 e2
   exact ⟨a,rfl,n,ha⟩⟩
structure GrI (H0 H:Hp) (q:Addr) (acc:List (List (List Str))) (gl:List Addr):Prop where
 at':H q=some (.lst (gl.map V.ref))
 len:acc.length=gl.length
 gr:∀ (i:Nat) g l,acc[i]?=some g->gl[i]?=some l->∃ us,H l=some (.lst us)/\LsAv H (q::gl) g us
 nd:gl.Nodup
 nq:q∉gl
 new:∀ l∈gl,H0 l=none
 os:∀ a o,a≠q->a∉gl->H0 a=some o->H a=some o
theorem GrI.mono {H0 H H':Hp} {q:Addr} {acc:List (List (List Str))} {gl:List Addr} (I:GrI H0 H q acc gl) (s:Same H H'):GrI H0 H' q acc gl:=⟨s _ _ I.at',I.len,fun i g l h1 h2=>by
 obtain ⟨us,e,a⟩:=I.gr i g l h1 h2
 exact ⟨us,s _ _ e,a.by fun a xs n h=>⟨n,s _ _ h⟩⟩,I.nd,I.nq,I.new,fun a o h1 h2 h3=>s _ _ (I.os a o h1 h2 h3)⟩
theorem GrI.lst {H0 H:Hp} {q:Addr} {acc:List (List (List Str))} {gl:List Addr} (I:GrI H0 H q acc gl) {l:Addr} (hl:l∈gl):∃ us,H l=some (.lst us):=by
 obtain ⟨i,hi⟩:=mem_iff_getElem?.mp hl
 have q:=(List.getElem?_eq_some_iff.mp hi).1
 have h1:=I.len
 obtain ⟨us,h,_⟩:=I.gr i _ l (getElem?_eq_getElem (by lia)) hi
 exact ⟨us,h⟩
theorem GrI.free {H0 H:Hp} {q:Addr} {acc:List (List (List Str))} {gl:List Addr} (I:GrI H0 H q acc gl) {l:Addr} (h:H l=none):l≠q/\l∉gl/\H0 l=none:=by
 have n1:l≠q:=fun e=>by rw [e,I.at'] at h;cases h
 have n2:l∉gl:=fun m=>by obtain ⟨ys,e⟩:=I.lst m;rw [e] at h;cases h
 refine ⟨n1,n2,?_⟩
 cases e:H0 l with
 | none=>rfl
 | some o=>rw [I.os l o n1 n2 e] at h;cases h
theorem GrI.push {H0 H:Hp} {q l:Addr} {acc:List (List (List Str))} {gl:List Addr} (I:GrI H0 H q acc gl) (hl:H l=none):GrI H0 (upd (upd H l (.lst [])) q (.lst (gl.map V.ref++[.ref l]))) q (acc++[[]]) (gl++[l]):=by
 obtain ⟨n1,n2,n3⟩:=I.free hl
 refine ⟨by rw [Zad,map_append];rfl,by simp [I.len],fun i g m h1 h2=>?_,?_,?_,?_,?_⟩
 ·have hln:=I.len
  rcases Zbn h1 with ⟨q1,e1⟩|⟨q1,e1⟩
  ·rcases Zbn h2 with ⟨q2,e2⟩|⟨q2,e2⟩
   ·obtain ⟨us,e,a⟩:=I.gr i g m e1 e2
    have nm:m≠q:=fun z=>I.nq (z▸mem_of_getElem? e2)
    have nl:m≠l:=fun z=>n2 (z▸mem_of_getElem? e2)
    refine ⟨us,by rw [Zat nm,Zat nl];exact e,a.by fun a xs n h=>?_⟩
    have ml:a≠l:=fun z=>by rw [z,hl] at h;cases h
    refine ⟨fun z=>?_,by rw [Zat (fun z=>n (by rw [z];exact mem_cons_self)),Zat ml];exact h⟩
    rcases mem_cons.mp z with z|z
    ·exact n (by rw [z];exact mem_cons_self)
    ·rcases mem_append.mp z with z|z
     ·exact n (mem_cons_of_mem _ z)
     ·exact ml (mem_singleton.mp z)
   ·lia
  ·rcases Zbn h2 with ⟨q2,e2⟩|⟨q2,e2⟩
   ·lia
   ·subst e1 e2
    exact ⟨[],by rw [Zat n1];exact Zad,rfl,fun i ws v h=>by cases h⟩
 ·rw [nodup_append]
  exact ⟨I.nd,by simp,fun x hx y hy e=>n2 (by rw [mem_singleton] at hy;rw [<-hy,<- e];exact hx)⟩
 ·intro z
  rcases mem_append.mp z with z|z
  ·exact I.nq z
  ·exact n1 (mem_singleton.mp z).symm
 ·intro x hx
  rcases mem_append.mp hx with hx|hx
  ·exact I.new x hx
  ·rw [mem_singleton.mp hx];exact n3
 ·intro x o hx hx' e
  rw [Zat hx,Zat (fun z=>hx' (by rw [z];exact mem_append_right _ mem_cons_self))]
  exact I.os x o hx (fun z=>hx' (mem_append_left _ z)) e
theorem GrI.add {H0 H:Hp} {q l w:Addr} {acc:List (List (List Str))} {g:List (List Str)} {gl:List Addr} {ws:List Str} (hl:acc.length=gl.length) (I:GrI H0 H q (acc++[g]) (gl++[l])) (hw:H w=some (.lst (ws.map V.str))) (nw:w≠q) (nw':w∉gl++[l]) :
  ∃ us,us.length=g.length/\H l=some (.lst us)/\GrI H0 (upd H l (.lst (us++[.ref w]))) q (acc++[g++[ws]]) (gl++[l]):=by
 obtain ⟨us,e,a⟩:=I.gr acc.length g l (by simp) (by rw [hl];simp)
 have hnl:q≠l:=fun z=>I.nq (z▸mem_append_right _ mem_cons_self)
 have av:w∉q::(gl++[l]):=fun z=>(mem_cons.mp z).elim nw nw'
 have kp:∀ a xs,a∉q::(gl++[l])->H a=some (.lst xs)->a∉q::(gl++[l])/\upd H l (.lst (us++[.ref w])) a=some (.lst xs):=fun a xs n h=>⟨n,by rw [Zat (fun z=>n (by rw [z];exact mem_cons_of_mem _ (mem_append_right _ mem_cons_self)))];exact h⟩
 refine ⟨us,a.1.symm,e,by rw [Zat hnl];exact I.at',by simp [hl],fun i g' m h1 h2=>?_,I.nd,I.nq,I.new,fun x o hx hx' e=>?_⟩
 ·rcases Zbn h1 with ⟨q1,e1⟩|⟨q1,e1⟩
  ·rcases Zbn h2 with ⟨q2,e2⟩|⟨q2,e2⟩
   ·obtain ⟨us',e',a'⟩:=I.gr i g' m (by rw [getElem?_append_left q1];exact e1) (by rw [getElem?_append_left q2];exact e2)
    have nm:m≠l:=fun z=>(nodup_append.mp I.nd).2.2 m (mem_of_getElem? e2) l mem_cons_self z
    exact ⟨us',by rw [Zat nm];exact e',a'.by kp⟩
   ·lia
  ·rcases Zbn h2 with ⟨q2,e2⟩|⟨q2,e2⟩
   ·lia
   ·subst e1 e2
    exact ⟨us++[.ref w],Zad,(a.by kp).snoc av (kp w _ av hw).2⟩
 ·rw [Zat (fun z=>hx' (by rw [z];exact mem_append_right _ mem_cons_self))]
  exact I.os x o hx hx' e
theorem GrI.same {H0 H:Hp} {q:Addr} {acc:List (List (List Str))} {gl:List Addr} (hq:H0 q=none) (I:GrI H0 H q acc gl):Same H0 H:=fun a o e=>I.os a o (fun z=>by rw [z,hq] at e;cases e) (fun z=>by rw [I.new a z] at e;cases e) e
noncomputable def SAll (H:Hp) (sts:List ZaO) (ys:List V):Prop:=sts.length=ys.length/\∀ (i:Nat) st v,sts[i]?=some st->ys[i]?=some v->StandAt H st v
theorem SAll.mono {H H':Hp} {sts:List ZaO} {ys:List V} (h:SAll H sts ys) (s:Same H H'):SAll H' sts ys:=⟨h.1,fun i st v h1 h2=>(h.2 i st v h1 h2).mono s⟩
theorem SAll.snoc {H:Hp} {sts:List ZaO} {ys:List V} {st:ZaO} {v:V} (h:SAll H sts ys) (k:StandAt H st v):SAll H (sts++[st]) (ys++[v]):=⟨by simp [h.1],fun i st' v' h1 h2=>by
 have hl:=h.1
 rcases Zbn h1 with ⟨q1,e1⟩|⟨q1,e1⟩
 ·rcases Zbn h2 with ⟨q2,e2⟩|⟨q2,e2⟩
  ·exact h.2 i st' v' e1 e2
  ·lia
 ·rcases Zbn h2 with ⟨q2,e2⟩|⟨q2,e2⟩
  ·lia
  ·subst e1 e2
   exact k⟩
noncomputable def GOk (n:Nat) (g:List (List Str)):Prop:=g.length<=n/\∀ l∈g,WsOk l/\l≠[]
section
variable {Zah ZaA Zav ZaU:Addr}
inductive Pr_read_lane (C:Addr) (x:V) (H:Hp) (Q:VK) (E:XK):Prop
 | mk (z) (_:x=.str z) (_:z.length<=900000) (_:Zbd z) (_:∀ sts,ZdC z=some sts->∀ p ys H',H' p=some (.lst ys)->SAll H' sts ys->Same H H'->Q (.ref p) H') (_:ZdC z=none->∀ H',Same H H'->E (.ref C) none H'):Pr_read_lane C x H Q E
noncomputable def ZeM (C:Addr):Sp:=spX1 (Pr_read_lane C)
theorem sc_read_lane:FnScope ["text","groups","line","words"] ["text"] (Zam Zde):=⟨rfl,rfl,rfl,by decide +kernel,rfl,by decide +kernel,by decide +kernel⟩
theorem ZhY (B:Blt mg) (G:Glb K w mg) (HX:ExH K mg Zah ZaA Zav ZaU) (T_read_lane:TopFn K mg "read_lane" Zde ["text"]) (Cread_stand:CalleeX P w K mg base Zah "read_stand" 8 ["group"] (Zd9 Zah)):CalleeX P w K mg base Zah "read_lane" 9 ["text"] (ZeM Zah):=by
 refine T_read_lane.okX1 sc_read_lane fun f cdv A outer s H v1 Q E hr h=>?_
 have nd:=sc_read_lane.nd
 obtain ⟨z,rfl,hz,az,k,no⟩:=h
 refine' Zb2 [some (.str z),none,none,none] rfl ?hb ?hg
 case' hb=>refine' Zae ?bab ?bac
 case bab=>exact (Zcm (i:=1) nd rfl (Or.inl rfl) (Zba Zab))
 case' bac=>refine' Zae ?bad ?bae
 case' bad=>refine' Zch ?baf ?bag ?bah ?bai ?baj
 case baf=>exact PassesOwn.leaving
 case bag=>exact rfl
 case' bah=>refine' Za4 (K:=K) ?bak ?bal
 case bak=>exact rfl
 case bal=>exact (k_bm (K:=K) rfl PySem.F.plainAttrs_str PySem.F.slot_str_split PySem.F.type_str_split Zb1 (pv 0) (Zaf Zak Zab))
 case bai=>exact (ZaE (i:=2) nd rfl (Or.inl rfl))
 case' baj=>refine' Zae ?bam ?ban
 case' bam=>refine' Zbk (i:=3) ?bao ?bap ?baq ?bar
 case bao=>exact nd
 case bap=>exact rfl
 case baq=>exact (Or.inl rfl)
 case bar=>exact (k_bm (K:=K) rfl PySem.F.plainAttrs_str PySem.F.slot_str_split PySem.F.type_str_split Zb1 (pv 2) (Zaf Zak Zab))
 case' ban=>refine' Zae ?bas ?bat
 case' bas=>refine' Za1 ?bau ?bav ?baw
 case bau=>exact (Zal Zbc (Zao (k_ix (K:=K) rfl) (pv 3) Zaa (fun _ _=>rfl)) Zak (Zas _))
 case' bav=>refine' Zag ?bax
 case' bax=>refine' Zby ?bay
 case bay=>exact (k_bm (K:=K) rfl PySem.F.plainAttrs_list PySem.F.slot_list_append PySem.F.type_list_append Za3 (pv 1) (Zgs (Zba Zab) Zab))
 case' baw=>refine' Zag ?baz
 case' baz=>refine' Za1 ?bba ?bbb ?bbc
 case bba=>exact (Zal Zbc (Zaw (Zcu (K:=K) rfl) (by rfl) B.b_len ZbA (Zac (pv 1) Zab)) Zaa (Zas _))
 case bbb=>exact (Zag (Zct (by rfl) HX.m_NoText HX.exc (Zaf Zak Zab)))
 case bbc=>exact Zaz
 case' bat=>refine' Zag ?bbd
 case' bbd=>refine' Zby ?bbe
 case' bbe=>refine' k_bm (K:=K) ?bbf ?bbg ?bbh ?bbi ?bbj ?bbk ?bbl
 case bbf=>exact rfl
 case bbg=>exact PySem.F.plainAttrs_list
 case bbh=>exact PySem.F.slot_list_append
 case bbi=>exact PySem.F.type_list_append
 case bbj=>exact Za3
 case bbk=>exact (Zao (k_ix (K:=K) rfl) (pv 1) (ZdF Zce Zaa) (fun _ _=>rfl))
 case bbl=>exact (Zac (pv 3) Zab)
 case' bae=>refine' Zag ?bbm
 case' bbm=>refine' ZaD ?bbn
 case' bbn=>refine' Zeh (LN:=["group"]) (FN:=[]) (fr:=[]) ?bbo ?bbp ?bbq ?bbr ?bbs ?bbt
 case bbo=>exact rfl
 case bbp=>exact (ZdO (by rfl))
 case bbq=>exact (Za4 (K:=K) rfl (pv 1))
 case' bbr=>intro cl C fp pins s H
 case bbr=>exact (ZaE (i:=0) (show ((["group"]:List Str)++([]:List Str)).Nodup by decide +kernel) rfl (Or.inl rfl))
 case' bbs=>intro cl C fp pins s H
 case bbs=>exact ZbY
 case' bbt=>intro cl C fp pins s H hin
 case bbt=>exact (ZeG hin Cread_stand (hr.mono (by first|decide|lia)) (by rfl) (Zac (pv 0) Zab))
 walk_at"rd"
 walk_at"mk";intro q hq
 have s0:=Same.new (o:=.lst []) hq
 have e0:upd H q (.lst []) q=some (.lst []):=Zad
 have I0:GrI H (upd H q (.lst [])) q [] []:=⟨e0,rfl,fun i d v e=>(by cases e),nodup_nil,not_mem_nil,fun l hl=>(by cases hl),fun a o n _ e=>s0 _ _ e⟩
 generalize upd H q (.lst [])=H0 at s0 e0 I0
 walk_at"rd"
 refine ⟨rfl,?_⟩
 walk_at"rd"
 refine ZdR (by decide) (ZaN (by lia)) fun p1 hp1=>?_
 rw [show (Str.ofString "\n")=(⟨#[10]⟩:Str) from ZeH]
 generalize hls:Txt.split z ⟨#[10]⟩=lines
 have hgz:ZgA z=lines.foldlM ZcS []:=by unfold ZgA;rw [ZeH,hls]
 have hll:lines.length<=900002:=by
  have:=Zfg z ⟨#[10]⟩
  rw [hls] at this
  lia
 have s1:=Same.new (o:=.lst (lines.map V.str)) hp1
 have e1:upd H0 p1 (.lst (lines.map V.str)) p1=some (.lst (lines.map V.str)):=Zad
 have I1:=I0.mono s1
 have npq:p1≠q:=fun e=>by rw [e,e0] at hp1;cases hp1
 generalize upd H0 p1 (.lst (lines.map V.str))=H1 at s1 e1 I1
 refine Zb4 (SqL.of e1) ?_
 refine ZgC (xs:=lines.map V.str) (fun i σ Hx=>Ex4 fun c2 c3 acc gl=>An7 (σ=[some (.str z),some (.ref q),c2,c3]) ((lines.take i).foldlM ZcS []=some acc) (acc.length<=i) (∀ g∈acc,GOk i g/\g≠[]) (GrI H Hx q acc gl) (p1∉gl) (Hx p1=some (.lst (lines.map V.str)))) ⟨none,none,[],[],rfl,rfl,Nat.le_refl _,fun d hd=>(by cases hd),I1,not_mem_nil,e1⟩ (fun i σ Hx _ z_=>by obtain ⟨_,_,_,_,_,_,_,_,_,_,e⟩:=z_;exact SqL.of e) ?_ ?_
 ·rintro i x σ Hx hx ⟨c2,c3,acc,gl,rfl,hacc,hal,hag,I,np,ep⟩
  rw [getElem?_map] at hx
  obtain ⟨line,el,rfl⟩:=Option.map_eq_some_iff.mp hx
  have hmem:line∈Txt.split z ⟨#[10]⟩:=by rw [hls];exact mem_of_getElem? el
  have al:=ZiJ hmem az
  have hlz:=(ZeA hmem).2
  have hil:i < lines.length:=(List.getElem?_eq_some_iff.mp el).1
  have next:=ZkJ (f:=ZcS) el hacc
  have wo:WsOk (Txt.split line ⟨#[32]⟩):=WsOk.split (by lia) al
  have eG:ZcS acc line=ZdA acc (Txt.split line ⟨#[32]⟩):=by unfold ZcS;rw [Zcd]
  walk_at"rd"
  refine ⟨rfl,?_⟩
  walk_at"rd"
  refine ZdR (by decide) (ZaN (by lia)) fun p2 hp2=>?_
  rw [show (Str.ofString " ")=(⟨#[32]⟩:Str) from Zcd]
  obtain ⟨w0,ws,hws⟩:∃ w0 ws,Txt.split line ⟨#[32]⟩=w0::ws:=by
   cases hws:Txt.split line ⟨#[32]⟩ with
   | nil=>exact absurd hws (ZbV _ _)
   | cons w0 ws=>exact ⟨w0,ws,rfl⟩
  rw [hws] at wo eG ⊢
  obtain ⟨n2q,n2l,_⟩:=I.free hp2
  have s2:=Same.new (o:=.lst ((w0::ws).map V.str)) hp2
  have e2:upd Hx p2 (.lst ((w0::ws).map V.str)) p2=some (.lst ((w0::ws).map V.str)):=Zad
  have I2:=I.mono s2
  have ep2:=s2 _ _ ep
  generalize upd Hx p2 (.lst ((w0::ws).map V.str))=H2 at s2 e2 I2 ep2
  refine Zcc ?_
  try dsimp +zetaDelta only
  refine Zf3 ?_
  refine Zfl (fun σ' H'=>Ex4 fun acc0 g0 gl0 l0=>An11 (σ'=[some (.str z),some (.ref q),some (.str line),some (.ref p2)]) (ZcS acc line=some (acc0++[g0++[w0::ws]])) (acc0.length=gl0.length) (acc0.length<=i) (∀ g∈acc0,GOk i g/\g≠[]) (GOk i g0) (GrI H H' q (acc0++[g0]) (gl0++[l0])) (H' p2=some (.lst ((w0::ws).map V.str))) (p2∉gl0++[l0]) (p1∉gl0++[l0]) (H' p1=some (.lst (lines.map V.str)))) ?_ fun N hN=>?_
  rotate_left
  ·walk_at"rd"
   refine Zaj e2 (v:=.str w0) (Zan (n:=0) rfl rfl) ?_
   walk_at"rd"
   refine ZaS (fun hd=>?_) (fun hd=>?_)
   ·have eG:ZcS acc line=some (acc++[[]++[w0::ws]]):=by
     rw [eG]
     unfold ZdA
     rw [if_pos (show (w0::ws).head?=some ZaL from congrArg some hd)]
     rfl
    walk_at"rd"
    refine ⟨.inl ⟨rfl,_,SqL.of I2.at'⟩,?_⟩
    walk_at"rd"
    walk_at"mk";intro l3 hl3
    obtain ⟨n3q,n3l,_⟩:=I2.free hl3
    have hvl:=I2.len
    walk_at"rd"
    refine ZaV (by rw [Zat (Ne.symm n3q)];exact I2.at') (Nat.lt_of_le_of_lt (show (gl.map V.ref).length<=1000000 by rw [length_map];lia) (by rw [PySem.sizeLine_eq];decide)) ?_
    have n23:p2≠l3:=fun e=>by rw [<-e,e2] at hl3;cases hl3
    have n13:p1≠l3:=fun e=>by rw [<-e,ep2] at hl3;cases hl3
    refine hN _ _ ⟨acc,[],gl,l3,rfl,eG,hvl,hal,hag,⟨Nat.zero_le _,fun l hl=>(by cases hl)⟩,I2.push hl3,by rw [Zat n2q,Zat n23];exact e2,fun hm=>?_,fun hm=>?_,by rw [Zat npq,Zat n13];exact ep2⟩
    ·rcases mem_append.mp hm with hm|hm
     ·exact n2l hm
     ·exact n23 (mem_singleton.mp hm)
    ·rcases mem_append.mp hm with hm|hm
     ·exact np hm
     ·exact n13 (mem_singleton.mp hm)
   ·walk_at"rd"
    refine Zbf (SqL.of I2.at') ?_
    walk_at"rd"
    have hvl:=I2.len
    have eG:ZcS acc line=if acc=[] then none else some (addG acc (w0::ws)):=by
     rw [eG]
     unfold ZdA
     rw [if_neg (show ¬ (w0::ws).head?=some ZaL from fun e=>hd (Option.some.inj e))]
    refine ZaS (fun h0=>?_) (fun h0=>?_)
    ·walk_at"rd"
     have:acc=[]:=eq_nil_of_length_eq_zero (by rw [length_map] at h0;lia)
     rw [if_pos this] at eG
     refine ⟨by decide,no ?_ _ ((I.same hq).trans s2)⟩
     unfold ZdC
     rw [hgz,Zjj (i:=i+1) (by rw [next];exact eG)]
     rfl
    have hne:acc≠[]:=fun e=>h0 (by rw [e] at hvl;rw [length_map,<- hvl];rfl)
    rw [if_neg hne] at eG
    have hgn:gl≠[]:=fun e=>hne (eq_nil_of_length_eq_zero (by rw [hvl,e];rfl))
    obtain ⟨acc0,g0,rfl⟩:∃ a d,acc=a++[d]:=⟨_,_,(dropLast_concat_getLast hne).symm⟩
    obtain ⟨gl0,l0,rfl⟩:∃ a d,gl=a++[d]:=⟨_,_,(dropLast_concat_getLast hgn).symm⟩
    rw [ZfK] at eG
    walk_at"rd"
    exact hN _ _ ⟨acc0,g0,gl0,l0,rfl,eG,by simpa using hvl,by simp at hal;lia,fun g hg=>hag g (mem_append_left _ hg),(hag g0 (mem_append_right _ mem_cons_self)).1,I2,e2,n2l,np,ep2⟩
  rintro σ H3 ⟨acc0,g0,gl0,l0,rfl,eG,hl0,ha0,hg0,gk,I3,e3,n3,n13,ep3⟩
  have hat:H3 q=some (.lst (gl0.map V.ref++[.ref l0])):=by have:=I3.at';rwa [map_append] at this
  obtain ⟨us,hul,hus,I4⟩:=GrI.add hl0 I3 e3 n2q n3
  have hgl:=gk.1
  walk_at"rd"
  refine Zaj hat (v:=.ref l0) (Zml _ _) ?_
  walk_at"rd"
  refine ⟨.inl ⟨rfl,_,SqL.of hus⟩,?_⟩
  walk_at"rd"
  refine ZaV hus (Nat.lt_of_le_of_lt (show us.length<=1000000 by lia) (by rw [PySem.sizeLine_eq];decide)) ?_
  refine ⟨_,_,_,_,rfl,by rw [next];exact eG,by simp;lia,fun g hg=>?_,I4,n13,?_⟩
  ·rcases mem_append.mp hg with hg|hg
   ·obtain ⟨h1,h2⟩:=hg0 g hg
    exact ⟨⟨by have:=h1.1;lia,h1.2⟩,h2⟩
   ·rw [mem_singleton.mp hg]
    refine ⟨⟨by simp;lia,fun l hl=>?_⟩,by simp⟩
    rcases mem_append.mp hl with hl|hl
    ·exact gk.2 l hl
    ·rw [mem_singleton.mp hl]
     exact ⟨wo,cons_ne_nil _ _⟩
  ·rw [Zat (fun e=>n13 (by rw [e];exact mem_append_right _ mem_cons_self))]
   exact ep3
 ·rintro σ Hx ⟨c2,c3,acc,gl,rfl,hacc,hal,hag,I,np,ep⟩
  rw [length_map,take_length] at hacc
  rw [hacc] at hgz
  have eL:ZdC z=acc.mapM Zbv:=by unfold ZdC;rw [hgz];rfl
  have sI:=I.same hq
  have hln:=I.len
  rw [length_map] at hal hag
  walk_at"rd"
  refine Zb4 (SqL.of I.at') ?_
  refine Zds (xs:=gl.map V.ref) (ZaN (by rw [length_map];lia)) (fun j ys σ Hy=>An3 (∃ x1,σ=[x1]) (Same Hx Hy) (∃ sts,(acc.take j).mapM Zbv=some sts/\SAll Hy sts ys)) ⟨⟨none,rfl⟩,Same.refl _,[],rfl,rfl,fun i st v e=>by cases e⟩ (fun j ys σ Hy _ z_=>by obtain ⟨_,s6,_⟩:=z_;exact SqL.of (s6 _ _ I.at')) ?_ ?_
  ·rintro j y ys σ Hy hx hle hlt ⟨⟨x1,rfl⟩,s6,sts,hst,sa⟩
   rw [getElem?_map] at hx
   obtain ⟨l,el,rfl⟩:=Option.map_eq_some_iff.mp hx
   have hjl:=(List.getElem?_eq_some_iff.mp el).1
   have eg:acc[j]?=some (acc[j]'(by lia)):=getElem?_eq_getElem _
   generalize acc[j]'(by lia)=g at eg
   obtain ⟨us,hus,la⟩:=I.gr j g l eg el
   obtain ⟨⟨gl1,gk⟩,gne⟩:=hag g (mem_of_getElem? eg)
   have nx:=ZcA (f:=Zbv) eg hst
   walk_at"rd"
   refine ZeY ⟨l,g,us,rfl,s6 _ _ hus,la.at.mono s6,⟨by lia,gk⟩,gne,fun st hs v H7 sv s7=>?_,fun hs H7 s7=>no (by rw [eL,ZcB (i:=j+1) (by rw [nx,hs];rfl)]) _ ((sI.trans s6).trans s7)⟩
   exact ⟨hlt,by simpa using hle,⟨_,rfl⟩,s6.trans s7,sts++[st],by rw [nx,hs];rfl,(sa.mono s7).snoc sv⟩
  rintro ys σ Hy hyy ⟨⟨x1,rfl⟩,s6,sts,hst,sa⟩ p7 hp7
  rw [length_map,<- hln,take_length] at hst
  walk_at"rd"
  have s7:=Same.new (o:=.lst ys) hp7
  exact k sts (by rw [eL,hst]) p7 ys _ Zad (sa.mono s7) ((sI.trans s6).trans s7)
end
end
end My
end
section
namespace My
open PySem L2
section
variable {P:Program} {w:World} {K:PySem.W.Frag} {mg:Str->Option Value} {base:Heap}
theorem Zf8 {H:Hp}:∀ (ns:List Int),Reps H (ns.map D.int) (ns.map V.int)
 | []=>Zaq
 | n::ns=>Zai Za9 (Zf8 ns)
noncomputable def FRB (f:ZbK):Prop:=N60 f.1/\N60 f.2.1/\LB f.2.2
structure SB (st:ZaO):Prop where
 many:N60 st.1
 few:st.2.1.length<=4
 fr:∀ f∈st.2.1,FRB f
 nums:∀ n∈st.2.2.2.1,N60 n
 eds:∀ e∈st.2.2.2.2,EB e
 deed:Zlc st.2.2
theorem pick6:∀ r:Nat,r < 6->∃ (wd:Str) (ec:Nat),ec<=2/\([V.str "go",V.str "test",V.str "tell",V.str "take",V.str "hold",V.str "leave"]:List V)[r]?=some (.str wd)/\([V.int 1,V.int 2,V.int 1,V.int 1,V.int 1,V.int 0]:List V)[r]?=some (.int ec)/\∃ ks,deedT.lookup wd=some ks/\(if r=4 then 2 else 0)=ks.countP (· == Zbs)/\ec=ks.countP (· == ZaY)
 | 0,_=>⟨"go",1,by decide,rfl,rfl,["edge"],by decide +kernel,by decide +kernel,by decide +kernel⟩
 | 1,_=>⟨"test",2,by decide,rfl,rfl,["edge","edge"],by decide +kernel,by decide +kernel,by decide +kernel⟩
 | 2,_=>⟨"tell",1,by decide,rfl,rfl,["edge"],by decide +kernel,by decide +kernel,by decide +kernel⟩
 | 3,_=>⟨"take",1,by decide,rfl,rfl,["edge"],by decide +kernel,by decide +kernel,by decide +kernel⟩
 | 4,_=>⟨"hold",1,by decide,rfl,rfl,["number","number","edge"],by decide +kernel,by decide +kernel,by decide +kernel⟩
 | 5,_=>⟨"leave",0,by decide,rfl,rfl,[],by decide +kernel,by decide +kernel,by decide +kernel⟩
 | n+6,h=>absurd h (by lia)
inductive StAv (b q:Addr) (H:Hp) (st:ZaO) (v:V):Prop
 | mk (t l ys vd) (_:v=.ref t) (_:H t=some (.tup [.int st.1,.ref l,vd])) (_:H l=some (.lst ys)) (_:l≠b) (_:l≠q) (_:Reps H (st.2.1.map Zcp) ys) (_:Rep H (ZdM st.2.2) vd):StAv b q H st v
theorem StAv.bs {b q l0:Addr} {H H':Hp} {st:ZaO} {v:V} (h:StAv b q H st v) (B:BagAt H b l0) (s:BSame b H H'):StAv b q H' st v:=by
 obtain ⟨t,l,ys,vd,rfl,e1,e2,n1,n2,r1,r2⟩:=h
 exact ⟨t,l,ys,vd,rfl,s.ts B _ _ e1,s _ _ n1 e2,n1,n2,r1.mono (s.ts B),r2.mono (s.ts B)⟩
theorem StAv.wr {b q:Addr} {H:Hp} {st:ZaO} {v:V} {xs zs:List V} (h:StAv b q H st v) (hq:H q=some (.lst xs)):StAv b q (upd H q (.lst zs)) st v:=by
 obtain ⟨t,l,ys,vd,rfl,e1,e2,n1,n2,r1,r2⟩:=h
 have tw:TSame H (upd H q (.lst zs)):=TSame.wr (fun zs z=>by rw [hq] at z;cases z)
 exact ⟨t,l,ys,vd,rfl,tw _ _ e1,by rw [Zat n2];exact e2,n1,n2,r1.mono tw,r2.mono tw⟩
noncomputable def SAv (b q:Addr) (H:Hp) (sts:List ZaO) (vs:List V):Prop:=sts.length=vs.length/\∀ (i:Nat) st v,sts[i]?=some st->vs[i]?=some v->StAv b q H st v
theorem SAv.all {b q:Addr} {H:Hp} {sts:List ZaO} {vs:List V} (h:SAv b q H sts vs):SAll H sts vs:=⟨h.1,fun i st v h1 h2=>by
 obtain ⟨t,l,ys,vd,rfl,e1,e2,n1,n2,r1,r2⟩:=h.2 i st v h1 h2
 exact ⟨t,l,ys,vd,rfl,e1,e2,r1,r2⟩⟩
theorem SAv.snoc {b q:Addr} {H:Hp} {sts:List ZaO} {vs:List V} {st:ZaO} {v:V} (h:SAv b q H sts vs) (k:StAv b q H st v):SAv b q H (sts++[st]) (vs++[v]):=⟨by simp [h.1],fun i st' v' h1 h2=>by
 rcases Zbn h1 with ⟨g1,g2⟩|⟨g1,rfl⟩
 ·rcases Zbn h2 with ⟨f1,f2⟩|⟨f1,_⟩
  ·exact h.2 i st' v' g2 f2
  ·have:=h.1;lia
 ·rcases Zbn h2 with ⟨f1,f2⟩|⟨_,rfl⟩
  ·have:=h.1;lia
  ·exact k⟩
inductive Pr_wlane (x:V) (H:Hp) (Q:VK):Prop
 | mk (b l) (_:x=.ref b) (_:BagAt H b l) (_:∀ sts q vs H',sts≠[]->sts.length<=5->(∀ st∈sts,SB st)->H q=none->q≠b->H' q=some (.lst vs)->SAll H' sts vs->BagAt H' b l->BSame b H H'->Q (.ref q) H'):Pr_wlane x H Q
noncomputable def Zlj:Sp:=sp1 (Pr_wlane)
theorem sc__law_wild_lane:FnScope ["bag","lane","k","kind","deed","j","many","paper"] ["bag"] (Zam ZbN):=⟨rfl,rfl,rfl,by decide +kernel,rfl,by decide +kernel,by decide +kernel⟩
theorem Ze2 (B:Blt mg) (T__law_wild_lane:TopFn K mg "_law_wild_lane" ZbN ["bag"]) (Zax:Callee P w K mg base "_law_draw" 1 ["bag","many"] ZeB) (ZaP:Callee P w K mg base "_law_number" 2 ["bag"] Zeb) (Zbh:Callee P w K mg base "_law_wild_forms" 3 ["bag"] Zfh) (ZcF:Callee P w K mg base "_law_wild_edge" 4 ["bag"] Zie):Callee P w K mg base "_law_wild_lane" 5 ["bag"] Zlj:=by
 refine T__law_wild_lane.ok1 sc__law_wild_lane fun f cdv A outer s H v1 Q E hr h=>?_
 have nd:=sc__law_wild_lane.nd
 obtain ⟨b,l,rfl,Bg,k⟩:=h
 refine' Zbl [some (.ref b),none,none,none,none,none,none,none] rfl ?hb ?hg
 case' hb=>refine' Zae ?bab ?bac
 case bab=>exact (Zcm (i:=1) nd rfl (Or.inl rfl) (Zba Zab))
 case' bac=>refine' Zae ?bad ?bae
 case' bad=>refine' Zch ?baf ?bag ?bah ?bai ?baj
 case baf=>exact PassesOwn.never
 case bag=>exact rfl
 case' bah=>refine' ZbL ?bak ?bal ?bam
 case bak=>exact rfl
 case bal=>exact B.b_range
 case bam=>exact (Zbi (Zar ZbE Zaa (Za7 Zax (hr.mono (by first|decide|lia)) (by rfl) (Zac (pv 0) (Zaf Zaa Zab)))) Zab)
 case bai=>exact (ZaE (i:=2) nd rfl (Or.inl rfl))
 case' baj=>refine' Zae ?ban ?bao
 case ban=>exact (Zbk (i:=3) nd rfl (Or.inl rfl) (Za7 Zax (hr.mono (by first|decide|lia)) (by rfl) (Zac (pv 0) (Zaf Zaa Zab))))
 case' bao=>refine' Zae ?bap ?baq
 case' bap=>refine' ZnH (i:=4) ?bar ?bas ?bat ?bau
 case bar=>exact nd
 case bas=>exact rfl
 case bat=>exact (Or.inl rfl)
 case' bau=>refine' Zbb ?bav
 case' bav=>refine' Zap ?baw ?bax
 case' baw=>refine' Zao ?bay ?baz ?bba ?bbb
 case bay=>exact (k_ix (K:=K) rfl)
 case baz=>exact (Zba (Zaf Zak (Zaf Zak (Zaf Zak (Zaf Zak (Zaf Zak (Zaf Zak Zab)))))))
 case bba=>exact (pv 3)
 case bbb=>exact (fun _ _=>rfl)
 case bax=>exact Zab
 case' baq=>refine' Zae ?bbc ?bbd
 case' bbc=>refine' Za1 ?bbe ?bbf ?bbg
 case bbe=>exact (Zal Zbc (pv 3) Zaa (Zas _))
 case' bbf=>refine' Zag ?bbh
 case' bbh=>refine' Zbr (i:=4) ?bbi ?bbj ?bbk ?bbl
 case bbi=>exact nd
 case bbj=>exact rfl
 case bbk=>exact (Or.inl rfl)
 case' bbl=>refine' Zar ?bbm ?bbn ?bbo
 case bbm=>exact (Zhb (K:=K) rfl)
 case bbn=>exact (pv 4)
 case' bbo=>refine' Zbb ?bbp
 case' bbp=>refine' Zay ?bbq ?bbr
 case bbq=>exact (Za7 ZaP (hr.mono (by first|decide|lia)) (by rfl) (Zac (pv 0) Zab))
 case bbr=>exact (Zay (Za7 ZaP (hr.mono (by first|decide|lia)) (by rfl) (Zac (pv 0) Zab)) Zab)
 case bbg=>exact Zaz
 case' bbd=>refine' Zae ?bbs ?bbt
 case' bbs=>refine' Zch ?bbu ?bbv ?bbw ?bbx ?bby
 case bbu=>exact PassesOwn.never
 case bbv=>exact rfl
 case' bbw=>refine' ZbL ?bbz ?bca ?bcb
 case bbz=>exact rfl
 case bca=>exact B.b_range
 case' bcb=>refine' Zap ?bcc ?bcd
 case' bcc=>refine' Zao ?bce ?bcf ?bcg ?bch
 case bce=>exact (k_ix (K:=K) rfl)
 case bcf=>exact (Zba (Zaf Zaa (Zaf Zaa (Zaf Zaa (Zaf Zaa (Zaf Zaa (Zaf Zaa Zab)))))))
 case bcg=>exact (pv 3)
 case bch=>exact (fun _ _=>rfl)
 case bcd=>exact Zab
 case bbx=>exact (ZaE (i:=5) nd rfl (Or.inl rfl))
 case' bby=>refine' Zag ?bci
 case' bci=>refine' Zbr (i:=4) ?bcj ?bck ?bcl ?bcm
 case bcj=>exact nd
 case bck=>exact rfl
 case bcl=>exact (Or.inl rfl)
 case' bcm=>refine' Zar ?bcn ?bco ?bcp
 case bcn=>exact (Zhb (K:=K) rfl)
 case bco=>exact (pv 4)
 case bcp=>exact (Zbb (Zay (Za7 ZcF (hr.mono (by first|decide|lia)) (by rfl) (Zac (pv 0) Zab)) Zab))
 case' bbt=>refine' Zae ?bcq ?bcr
 case bcq=>exact (Zbk (i:=6) nd rfl (Or.inl rfl) (Za7 ZaP (hr.mono (by first|decide|lia)) (by rfl) (Zac (pv 0) Zab)))
 case' bcr=>refine' Zae ?bcs ?bct
 case bcs=>exact (Zcm (i:=7) nd rfl (Or.inl rfl) (Zba Zab))
 case' bct=>refine' Zae ?bcu ?bcv
 case' bcu=>refine' Zch ?bcw ?bcx ?bcy ?bcz ?bda
 case bcw=>exact PassesOwn.never
 case bcx=>exact rfl
 case' bcy=>refine' ZbL ?bdb ?bdc ?bdd
 case bdb=>exact rfl
 case bdc=>exact B.b_range
 case bdd=>exact (Zay (Za7 Zax (hr.mono (by first|decide|lia)) (by rfl) (Zac (pv 0) (Zaf Zaa Zab))) Zab)
 case bcz=>exact (ZaE (i:=5) nd rfl (Or.inl rfl))
 case' bda=>refine' Zag ?bde
 case' bde=>refine' Zby ?bdf
 case' bdf=>refine' k_bm (K:=K) ?bdg ?bdh ?bdi ?bdj ?bdk ?bdl ?bdm
 case bdg=>exact rfl
 case bdh=>exact PySem.F.plainAttrs_list
 case bdi=>exact PySem.F.slot_list_append
 case bdj=>exact PySem.F.type_list_append
 case bdk=>exact Za3
 case bdl=>exact (pv 7)
 case' bdm=>refine' ZbR ?bdn ?bdo
 case' bdn=>refine' Zbb ?bdp
 case' bdp=>refine' Zay ?bdq ?bdr
 case bdq=>exact (Za7 ZaP (hr.mono (by first|decide|lia)) (by rfl) (Zac (pv 0) Zab))
 case' bdr=>refine' Zay ?bds ?bdt
 case bds=>exact (Za7 ZaP (hr.mono (by first|decide|lia)) (by rfl) (Zac (pv 0) Zab))
 case bdt=>exact (Zay (Za7 Zbh (hr.mono (by first|decide|lia)) (by rfl) (Zac (pv 0) Zab)) Zab)
 case bdo=>exact Zab
 case' bcv=>refine' Zag ?bdu
 case' bdu=>refine' Zby ?bdv
 case' bdv=>refine' k_bm (K:=K) ?bdw ?bdx ?bdy ?bdz ?bea ?beb ?bec
 case bdw=>exact rfl
 case bdx=>exact PySem.F.plainAttrs_list
 case bdy=>exact PySem.F.slot_list_append
 case bdz=>exact PySem.F.type_list_append
 case bea=>exact Za3
 case beb=>exact (pv 1)
 case bec=>exact (ZbR (Zbb (Zac (pv 6) (Zac (pv 7) (Zac (pv 4) Zab)))) Zab)
 case bae=>exact (Zag (ZaD (pv 1)))
 walk_at"rd"
 walk_at"mk";intro q hq
 have s0:=Same.new (o:=.lst []) hq
 have nqb:q≠b:=fun z=>(Bg.ne hq).1 z.symm
 have nql:q≠l:=fun z=>(Bg.ne hq).2 z.symm
 walk_at"rd"
 refine use2 ⟨b,l,5,rfl,rfl,⟨by decide,by decide⟩,Bg.mono s0,fun n1 H1 g0 g1 B1 b1=>?_⟩
 walk_at"rd"
 refine ZdY (by lia) (by lia) ?_
 refine ZdK (n:=(1+n1).toNat) (fun i σ Hx=>Ex8 fun (sts:List ZaO) (vs:List V) (x2:Option V) (x3:Option V) (x4:Option V) (x5:Option V) (x6:Option V) (x7:Option V)=>An7 (σ=[some (.ref b),some (.ref q),x2,x3,x4,x5,x6,x7]) (Hx q=some (.lst vs)) (SAv b q Hx sts vs) (sts.length=i) (∀ st∈sts,SB st) (BagAt Hx b l) (BSame b H Hx))
  ⟨[],[],none,none,none,none,none,none,rfl,b1 _ _ nqb Zad,⟨rfl,fun i st v h1=>by cases h1⟩,rfl,(fun f hf=>by cases hf),B1,((BSame.refl b H).to s0).trans b1⟩ ?_ ?_
 ·rintro i σ Hx hi ⟨sts,vs,x2,x3,x4,x5,x6,x7,rfl,hqx,sv,hl,ok,Bx,bx⟩
  have hvl:=sv.1
  walk_at"rd"
  refine use2 ⟨b,l,6,rfl,rfl,⟨by decide,by decide⟩,Bx,fun r H2 r0 r1 B2 b2=>?_⟩
  obtain ⟨r,rfl⟩:=Int.eq_ofNat_of_zero_le r0
  obtain ⟨wd,ec,hec,ew,ee,ks,ek,cn,ce⟩:=pick6 r (by lia)
  walk_at"rd"
  walk_at"mk";intro p3 hp3
  have s3:=Same.new (o:=.lst [V.str "go",V.str "test",V.str "tell",V.str "take",V.str "hold",V.str "leave"]) hp3
  have e3:upd H2 p3 (.lst [V.str "go",V.str "test",V.str "tell",V.str "take",V.str "hold",V.str "leave"]) p3=some (.lst [V.str "go",V.str "test",V.str "tell",V.str "take",V.str "hold",V.str "leave"]):=Zad
  generalize upd H2 p3 (.lst [V.str "go",V.str "test",V.str "tell",V.str "take",V.str "hold",V.str "leave"])=H3 at s3 e3
  walk_at"rd"
  refine Zaj e3 (Zan (n:=r) rfl ew) ?_
  walk_at"rd"
  walk_at"mk";intro p4 hp4
  have s4:=Same.new (o:=.tup [V.str wd]) hp4
  have e4:upd H3 p4 (.tup [V.str wd]) p4=some (.tup [V.str wd]):=Zad
  generalize upd H3 p4 (.tup [V.str wd])=H4 at s4 e4
  have B4:=(B2.mono s3).mono s4
  have b4:BSame b Hx H4:=(b2.to s3).to s4
  refine Zcc ?_
  try dsimp +zetaDelta only
  refine Zfl (fun σ' H'=>Ex2 fun (ns:List Int) (p5:Addr)=>An6 (σ'=[some (.ref b),some (.ref q),some (.int (0+(i:Int))),some (.int (r:Int)),some (.ref p5),x5,x6,x7]) (H' p5=some (.tup (V.str wd::ns.map V.int))) (ns.length=ks.countP (· == Zbs)) (∀ n∈ns,N60 n) (BagAt H' b l) (BSame b Hx H')) ?_ fun N hN=>?_
  rotate_left
  ·walk_at"rd"
   refine ZaS (fun h4=>?_) (fun h4=>?_)
   ·walk_at"rd"
    refine use1 ⟨b,l,rfl,B4,fun n5 H5 t5 B5 b5=>?_⟩
    walk_at"rd"
    refine use1 ⟨b,l,rfl,B5,fun n6 H6 t6 B6 b6=>?_⟩
    walk_at"rd"
    walk_at"mk";intro p7 hp7
    have s7:=Same.new (o:=.tup [V.int n5,V.int n6]) hp7
    have e7:upd H6 p7 (.tup [V.int n5,V.int n6]) p7=some (.tup [V.int n5,V.int n6]):=Zad
    generalize upd H6 p7 (.tup [V.int n5,V.int n6])=H7 at s7 e7
    have e47:=s7 _ _ ((b5.trans b6).ts B4 _ _ e4)
    refine Zfn e47 e7 (by simp) fun p8 H8 e8 s8=>?_
    walk_at"rd"
    refine hN _ _ ⟨[n5,n6],p8,rfl,e8,?_,fun n hn=>?_,(B6.mono s7).mono s8,((b4.trans (b5.trans b6)).to s7).to s8⟩
    ·rw [<-cn,if_pos (by lia)];rfl
    ·rcases mem_cons.mp hn with rfl|hn
     ·exact t5
     ·rw [mem_singleton.mp hn];exact t6
   ·walk_at"rd"
    refine hN _ _ ⟨[],p4,rfl,e4,?_,(fun n hn=>by cases hn),B4,b4⟩
    rw [<-cn,if_neg (by lia)];rfl
  rintro σ' H5 ⟨ns,p5,rfl,e5,hns,tn,B5,b5⟩
  clear e4 B4 b4 e3
  walk_at"rd"
  walk_at"mk";intro p6 hp6
  have s6:=Same.new (o:=.lst [V.int 1,V.int 2,V.int 1,V.int 1,V.int 1,V.int 0]) hp6
  have e6:upd H5 p6 (.lst [V.int 1,V.int 2,V.int 1,V.int 1,V.int 1,V.int 0]) p6=some (.lst [V.int 1,V.int 2,V.int 1,V.int 1,V.int 1,V.int 0]):=Zad
  generalize upd H5 p6 (.lst [V.int 1,V.int 2,V.int 1,V.int 1,V.int 1,V.int 0])=H6 at s6 e6
  walk_at"rd"
  refine Zaj e6 (Zan (n:=r) rfl ee) ?_
  walk_at"rd"
  refine ZdY (by lia) (by lia) ?_
  have hns2:ns.length<=2:=by rw [hns,<- cn];split <;> lia
  refine ZdK (n:=ec) (fun j σ Hy=>Ex4 fun (es:List ZdW) (xs:List V) (p7:Addr) (y5:Option V)=>An7 (σ=[some (.ref b),some (.ref q),some (.int (0+(i:Int))),some (.int (r:Int)),some (.ref p7),y5,x6,x7]) (Hy p7=some (.tup xs)) (Reps Hy (D.str wd::(ns.map D.int++es.map ZcY)) xs) (es.length=j) (∀ e∈es,EB e) (BagAt Hy b l) (BSame b Hx Hy))
   ⟨[],_,p5,x5,rfl,s6 _ _ e5,Zai (by rw [Rep]) (by rw [map_nil,append_nil];exact Zf8 ns),rfl,(fun e he=>by cases he),B5.mono s6,b5.to s6⟩ ?_ ?_
  ·rintro j σ Hy hj ⟨es,xs,p7,y5,rfl,e7,rx,hel,oke,By,bY⟩
   have hxl:=rx.length
   simp only [length_cons,length_append,length_map] at hxl
   walk_at"rd"
   refine use1 ⟨b,l,rfl,By,fun e v8 H8 t8 r8 B8 b8=>?_⟩
   walk_at"rd"
   walk_at"mk";intro p9 hp9
   have s9:=Same.new (o:=.tup [v8]) hp9
   have e9:upd H8 p9 (.tup [v8]) p9=some (.tup [v8]):=Zad
   generalize upd H8 p9 (.tup [v8])=H9 at s9 e9
   refine Zfn (s9 _ _ (b8.ts By _ _ e7)) e9 (by simp only [length_cons,length_nil];lia) fun pa Ha ea sa=>?_
   walk_at"rd"
   refine ⟨es++[e],_,pa,_,rfl,ea,?_,by simp [hel],fun e' he'=>?_,(B8.mono s9).mono sa,((bY.trans b8).to s9).to sa⟩
   ·rw [map_append,<- append_assoc,<- cons_append]
    exact Reps.append (rx.mono (((b8.ts By).trans s9.ts).trans sa.ts)) (Zai (r8.mono (s9.ts.trans sa.ts)) Zaq)
   ·rcases mem_append.mp he' with he'|he'
    ·exact oke e' he'
    ·rw [mem_singleton.mp he'];exact t8
  rintro σ H7 ⟨es,xs,p7,y5,rfl,e7,rx,hel,oke,B7,b7⟩
  walk_at"rd"
  refine use1 ⟨b,l,rfl,B7,fun many H8 t8 B8 b8=>?_⟩
  walk_at"rd"
  walk_at"mk";intro pp hpp
  have spp:=Same.new (o:=.lst []) hpp
  have npb:pp≠b:=fun z=>(B8.ne hpp).1 z.symm
  have npl:pp≠l:=fun z=>(B8.ne hpp).2 z.symm
  have hq8:=b8 _ _ nqb (b7 _ _ nqb hqx)
  have npq:pp≠q:=fun z=>by rw [z,hq8] at hpp;cases hpp
  have b08:BSame b Hx H8:=b7.trans b8
  have hppx:Hx pp=none:=b08.free npb hpp
  walk_at"rd"
  refine use2 ⟨b,l,5,rfl,rfl,⟨by decide,by decide⟩,B8.mono spp,fun m9 H9 m0 m1 B9 b9=>?_⟩
  walk_at"rd"
  refine ZdY (by lia) (by lia) ?_
  have ts79:TSame H7 H9:=((b8.ts B7).trans spp.ts).trans (b9.ts (B8.mono spp))
  refine ZdK (n:=m9.toNat) (fun j σ Hy=>Ex3 fun (fr:List ZbK) (ys:List V) (y5:Option V)=>An8 (σ=[some (.ref b),some (.ref q),some (.int (0+(i:Int))),some (.int (r:Int)),some (.ref p7),y5,some (.int many),some (.ref pp)]) (Hy pp=some (.lst ys)) (Reps Hy (fr.map Zcp) ys) (fr.length=j) (∀ f∈fr,FRB f) (BagAt Hy b l) (BSame b Hx Hy) (TSame H7 Hy))
   ⟨[],[],y5,rfl,b9 _ _ npb Zad,Zaq,rfl,(fun f hf=>by cases hf),B9,(b08.to spp).trans b9,ts79⟩ ?_ ?_
  ·rintro j σ Hy hj ⟨fr,ys,y5,rfl,epp,ry,hfl,okf,By,bY,tY⟩
   have hyl:=ry.length
   rw [length_map] at hyl
   walk_at"rd"
   refine ⟨.inl ⟨rfl,ys,SqL.of epp⟩,?_⟩
   walk_at"rd"
   refine use1 ⟨b,l,rfl,By,fun na Ha ta Ba ba=>?_⟩
   walk_at"rd"
   refine use1 ⟨b,l,rfl,Ba,fun nb Hb tb Bb bb=>?_⟩
   walk_at"rd"
   refine use1 ⟨b,l,rfl,Bb,fun fs vc Hc tc rc Bc bc=>?_⟩
   walk_at"rd"
   walk_at"mk";intro pd hpd
   have sd:=Same.new (o:=.tup [V.int na,V.int nb,vc]) hpd
   have ed:upd Hc pd (.tup [V.int na,V.int nb,vc]) pd=some (.tup [V.int na,V.int nb,vc]):=Zad
   have byc:BSame b Hy Hc:=(ba.trans bb).trans bc
   have epd:=sd _ _ (byc _ _ npb epp)
   have Bd:=Bc.mono sd
   have rcd:=rc.mono sd.ts
   generalize upd Hc pd (.tup [V.int na,V.int nb,vc])=Hd at sd ed epd Bd rcd
   walk_at"rd"
   refine ZaV epd (Nat.lt_of_le_of_lt (show ys.length<=1000 by lia) (by decide)) ?_
   walk_at"rd"
   have tw:TSame Hd (upd Hd pp (.lst (ys++[V.ref pd]))):=TSame.wr (fun zs z=>by rw [epd] at z;cases z)
   have tyd:TSame Hy Hd:=(byc.ts By).trans sd.ts
   refine ⟨fr++[(na,nb,fs)],ys++[V.ref pd],_,rfl,Zad,?_,by simp [hfl],fun f hf=>?_,Bd.wr (Ne.symm npb) (Ne.symm npl),((bY.trans byc).to sd).wrNew hppx,(tY.trans tyd).trans tw⟩
   ·rw [map_append]
    exact Reps.append (ry.mono (tyd.trans tw)) (Zai ((ZaZ ed (Zai Za9 (Zai Za9 (Zai rcd Zaq)))).mono tw) Zaq)
   ·rcases mem_append.mp hf with hf|hf
    ·exact okf f hf
    ·rw [mem_singleton.mp hf];exact ⟨ta,tb,tc⟩
  rintro σ Ha ⟨fr,ys,y5',rfl,epp,ry,hfl,okf,Ba,ba,ta⟩
  have hqa:=ba _ _ nqb hqx
  walk_at"rd"
  refine ⟨.inl ⟨rfl,vs,SqL.of hqa⟩,?_⟩
  walk_at"rd"
  walk_at"mk";intro pt hpt
  have st:=Same.new (o:=.tup [V.int many,V.ref pp,V.ref p7]) hpt
  have et:upd Ha pt (.tup [V.int many,V.ref pp,V.ref p7]) pt=some (.tup [V.int many,V.ref pp,V.ref p7]):=Zad
  have hqt:=st _ _ hqa
  have ept:=st _ _ epp
  have Bt:=Ba.mono st
  have rdt:Rep Ha (ZdM (wd,ns,es)) (.ref p7):=ZaZ (ta _ _ e7) (rx.mono ta)
  have rdt:=rdt.mono st.ts
  have ryt:=ry.mono st.ts
  have svt:SAv b q (upd Ha pt (.tup [V.int many,V.ref pp,V.ref p7])) sts vs:=⟨sv.1,fun i st' v h1 h2=>(sv.2 i st' v h1 h2).bs Bx (ba.to st)⟩
  generalize upd Ha pt (.tup [V.int many,V.ref pp,V.ref p7])=Ht at st et hqt ept Bt rdt ryt svt
  walk_at"rd"
  refine ZaV hqt (Nat.lt_of_le_of_lt (show vs.length<=1000 by lia) (by decide)) ?_
  walk_at"rd"
  have sta:StAv b q Ht (many,fr,(wd,ns,es)) (.ref pt):=⟨pt,pp,ys,_,rfl,et,ept,npb,npq,ryt,rdt⟩
  have sv1:SAv b q Ht (sts++[(many,fr,(wd,ns,es))]) (vs++[.ref pt]):=svt.snoc sta
  refine ⟨sts++[(many,fr,(wd,ns,es))],vs++[.ref pt],_,_,_,_,_,_,rfl,Zad,⟨sv1.1,fun i st' v h1 h2=>(sv1.2 i st' v h1 h2).wr hqt⟩,by simp [hl],fun st' hs=>?_,Bt.wr (Ne.symm nqb) (Ne.symm nql),((bx.trans ba).to st).wrNew hq⟩
  rcases mem_append.mp hs with hs|hs
  ·exact ok st' hs
  ·rw [mem_singleton.mp hs]
   exact ⟨t8,by show fr.length<=4;lia,okf,tn,oke,ks,ek,hns,by rw [hel,ce]⟩
 ·rintro σ Hx ⟨sts,vs,x2,x3,x4,x5,x6,x7,rfl,hqx,sv,hl,ok,Bx,bx⟩
  walk_at"rd"
  exact k sts q vs Hx (fun e=>by rw [e] at hl;simp at hl;lia) (by lia) ok hq nqb hqx sv.all Bx bx
theorem ZgJ : ∀ (zs : List Str), cs (Str.join (Str.ofString "") zs) = (zs.map cs).flatten
  | [] => rfl
  | [x] => by simp [Str.join]
  | x :: y :: r => by
    show cs (x ++ Str.ofString "" ++ Str.join (Str.ofString "") (y :: r)) = _
    rw [Za8, Za8, ZgJ (y :: r), show cs (Str.ofString "") = [] from by decide, append_nil]
    rfl
theorem ZiA {c : Nat} : ∀ (ps : List (List Nat)) (x : List Nat), jn c (x :: ps) = x ++ (ps.map (c :: ·)).flatten
  | [], x => (append_nil x).symm
  | p :: ps, x => by
    show x ++ c :: jn c (p :: ps) = _
    rw [ZiA ps p]
    rfl
noncomputable def Zft (q:Int×Int):Str:=Str.ofString ";"++numS q.1++Str.ofString ":"++numS q.2
theorem Zi4 (c:Int) (qs:List (Int×Int)):numS c++Str.join (Str.ofString "") (qs.map Zft)=fT (c,qs):=by
 apply Zet
 unfold fT
 rw [Za8,ZgJ,ZdE,Zbg,map_cons,ZiA]
 congr 2
 rw [map_map,map_map,map_map]
 refine map_congr_left fun q _=>?_
 show cs (Zft q)=59::cs (Zei q)
 unfold Zft Zei
 rw [Za8,Za8,Za8,Za8,Za8,Zdt,show cs (Str.ofString ";")=[59] from by decide,show cs (Str.ofString ":")=[58] from by decide]
 simp only [append_assoc]
 rfl
theorem ZfW {m : Nat} : ∀ {l : List Str}, (∀ x ∈ l, x.length <= m) -> (l.map (·.length)).sum <= m * l.length
  | [], _ => Nat.le_refl _
  | x :: l, h => by
    have h1 := h x mem_cons_self
    have h2 := ZfW fun y hy => h y (mem_cons_of_mem x hy)
    rw [map_cons, sum_cons, length_cons, Nat.mul_succ]
    lia
theorem ZlQ {q:Int×Int} (h:N60 q.1/\N60 q.2):(Zei q).length<=125:=by
 unfold Zei
 have h1:=h.1.len
 have h2:=h.2.len
 rw [ZaC,ZaC,Zdt]
 show _+1+_<=125
 lia
theorem Zj5 {q:Int×Int} (h:N60 q.1/\N60 q.2):(Zft q).length<=126:=by
 unfold Zft
 have h1:=h.1.len
 have h2:=h.2.len
 rw [ZaC,ZaC,ZaC]
 show 1+_+1+_<=126
 lia
theorem ZgB {f:Zbj} (h:FB f):(fT f).length<=440:=by
 have hsz:=Zc6 (c:=59) (ps:=numS f.1::f.2.map Zei) (cons_ne_nil _ _)
 rw [<-ZdE] at hsz
 have hs:=ZfW (m:=125) (l:=f.2.map Zei) fun x hx=>by
  obtain ⟨q,hq,rfl⟩:=mem_map.mp hx
  exact ZlQ (h.all q hq)
 have h1:=h.n.len
 have h2:=h.few
 rw [length_map] at hs
 rw [map_cons,sum_cons,length_cons,length_map] at hsz
 unfold fT
 lia
theorem FB.ok {f:Zbj} (h:FB f):FmOk f:=⟨h.n.sm,fun q hq=>⟨(h.all q hq).1.sm,(h.all q hq).2.sm⟩⟩
theorem Zeq {w:Str} {a b:Int} {fs:List Zbj} (hw:w.length<=10) (ha:N60 a) (hb:N60 b) (h:LB fs):(ZaM w a b fs).length<=1910:=by
 rw [Zb6]
 have hsz:=Zc6 (c:=32) (ps:=w::numS a::numS b::fs.map fT) (cons_ne_nil _ _)
 rw [<-Zcd] at hsz
 have hs:=ZfW (m:=440) (l:=fs.map fT) fun x hx=>by
  obtain ⟨q,hq,rfl⟩:=mem_map.mp hx
  exact ZgB (h.2 q hq)
 have h1:=ha.len
 have h2:=hb.len
 have h3:=h.1
 rw [length_map] at hs
 rw [map_cons,sum_cons,map_cons,sum_cons,map_cons,sum_cons,length_cons,length_cons,length_cons,length_map] at hsz
 lia
theorem ZfE (w:Str) (a b:Int):ZaM w a b []=w++Zbw++numS a++Zbw++numS b:=by
 rw [Zb6]
 apply Zet
 rw [Zcd,Zbg,map_cons,ZiA,Za8,Za8,Za8,Za8]
 simp only [map_cons,map_nil,flatten_cons,flatten_nil,append_nil,append_assoc]
 rfl
theorem Zi1 (w:Str) (a b:Int) (fs:List Zbj) (g:Zbj):ZaM w a b (fs++[g])=ZaM w a b fs++Zbw++fT g:=by
 rw [Zb6,Zb6,map_append,<- cons_append,<- cons_append,<- cons_append]
 exact Zkv Zbw (cons_ne_nil _ _)
inductive Pr_fwritten (x:V) (H:Hp) (Q:VK):Prop
 | mk (f:Zbj) (_:Rep H (fD f) x) (_:FB f) (_:∀ H',Same H H'->Q (.str (fT f)) H'):Pr_fwritten x H Q
noncomputable def Zfi:Sp:=sp1 (Pr_fwritten)
theorem sc__law_form_written:FnScope ["form"] ["form"] (Zam Zbp):=⟨rfl,rfl,rfl,by decide +kernel,rfl,by decide +kernel,by decide +kernel⟩
theorem Zd4 (B:Blt mg) (T__law_form_written:TopFn K mg "_law_form_written" Zbp ["form"]):Callee P w K mg base "_law_form_written" 1 ["form"] Zfi:=by
 refine T__law_form_written.ok1 sc__law_form_written fun f cdv A outer s H v1 Q E hr h=>?_
 have nd:=sc__law_form_written.nd
 obtain ⟨⟨c,qs⟩,rx,hF,k⟩:=h
 have hc:N60 c:=hF.n
 have hqs:∀ q∈qs,N60 q.1/\N60 q.2:=hF.all
 have hl:qs.length<=3:=hF.few
 have rx:Rep H (.tup [.int c,.tup (qs.map ZhL)]) v1:=rx
 refine' Zbl [some v1] rfl ?hb ?hg
 case' hb=>refine' Zag ?bab
 case' bab=>refine' ZaD ?bac
 case' bac=>refine' Zar ?bad ?bae ?baf
 case bad=>exact ZaR
 case bae=>exact (ZaI ZbM (by rfl) B.b_str ZdB (Zap (Zao (k_ix (K:=K) rfl) (pv 0) Zaa (fun _ _=>rfl)) Zab))
 case' baf=>refine' k_bm (K:=K) ?bag ?bah ?bai ?baj ?bak ?bal ?bam
 case bag=>exact rfl
 case bah=>exact PySem.F.plainAttrs_str
 case bai=>exact PySem.F.slot_str_join
 case baj=>exact PySem.F.type_str_join
 case bak=>exact (ZeU (K:=K) rfl)
 case bal=>exact Zak
 case' bam=>refine' ZcR ?ban ?bao
 case' ban=>refine' ZdH (LN:=["a","w"]) (FN:=[]) (fr:=[]) ?bap ?baq ?bar ?bas ?bat ?bau
 case bap=>exact rfl
 case baq=>exact (ZdO (by rfl))
 case bar=>exact (Ze8 (K:=K) rfl (Zao (k_ix (K:=K) rfl) (pv 0) Zaa (fun _ _=>rfl)))
 case' bas=>intro cl C fp pins s H
 case' bas=>refine' Zeo (K:=K) (n:=2) ?bav ?baw ?bax
 case bav=>exact rfl
 case baw=>exact rfl
 case' bax=>refine' ZbJ ?bay ?baz
 case bay=>exact (ZaE (i:=0) (show ((["a","w"]:List Str)++([]:List Str)).Nodup by decide +kernel) rfl (Or.inl rfl))
 case baz=>exact (ZbJ (ZaE (i:=1) (show ((["a","w"]:List Str)++([]:List Str)).Nodup by decide +kernel) rfl (Or.inl rfl)) Zfp)
 case' bat=>intro cl C fp pins s H
 case bat=>exact ZbY
 case' bau=>intro cl C fp pins s H
 case' bau=>refine' Zar ?bba ?bbb ?bbc
 case bba=>exact ZaR
 case bbb=>exact (Zar ZaR (Zar ZaR Zak (ZaI ZbM (by rfl) B.b_str ZdB (Zac (pv 0) Zab))) Zak)
 case bbc=>exact (ZaI ZbM (by rfl) B.b_str ZdB (Zac (pv 1) Zab))
 case bao=>exact Zab
 walk_at"rd"
 refine ZjH (n:=0) rx rfl rfl ?_
 walk_at"rd"
 refine ZcW (ZdX hc.sm) ?_
 walk_at"rd"
 refine ⟨rfl,?_⟩
 walk_at"rd"
 refine Zik (n:=1) rx rfl rfl fun u ru=>?_
 refine Zn5 ru fun a xs e ha rxs=>?_
 subst e
 have hlen:=rxs.length
 rw [length_map] at hlen
 refine ZmT (xs:=xs) (ZaN (by lia)) (fun i ys σ Hy=>An3 (∃ x1 x2,σ=[x1,x2]) (Hy=H) (ys=((qs.take i).map Zft).map V.str)) ⟨⟨none,none,rfl⟩,rfl,rfl⟩ (fun i ys σ Hy _ z_=>by obtain ⟨_,e,_⟩:=z_;rw [e];exact SqT.of ha) ?_ ?_
 ·rintro i x ys σ Hy hx hle hlt ⟨⟨x1,x2,rfl⟩,rfl,rfl⟩
  obtain ⟨d,ed,rd'⟩:=rxs.get' hx
  rw [getElem?_map] at ed
  obtain ⟨q,en,rfl⟩:=Option.map_eq_some_iff.mp ed
  obtain ⟨sa,sb⟩:=hqs q (mem_of_getElem? en)
  have la:=sa.len
  have lb:=sb.len
  obtain ⟨t2,zs,rfl,ht2,rzs⟩:=ZaW rd'
  obtain rfl:zs=[.int q.1,.int q.2]:=by
   rw [Reps] at rzs
   obtain ⟨v,r,rfl,h1,h2⟩:=rzs
   rw [Reps] at h2
   obtain ⟨v',r',rfl,h1',h2'⟩:=h2
   rw [Reps] at h2'
   rw [Rep] at h1 h1'
   rw [h1,h1',h2']
  refine ZeE ht2 rfl ?_
  walk_at"rd"
  refine ZcW (ZdX sa.sm) ?_
  refine ZaQ (ZaN (show 1+(numS q.1).length<=_ by lia)) ?_
  walk_at"rd"
  refine ZaQ (ZaN (by rw [ZaC];show 1+(numS q.1).length+1<=_;lia)) ?_
  walk_at"rd"
  refine ZcW (ZdX sb.sm) ?_
  refine ZaQ (ZaN (by rw [ZaC,ZaC];show 1+(numS q.1).length+1+(numS q.2).length<=_;lia)) ?_
  refine ⟨hlt,by simpa using hle,⟨_,_,rfl⟩,rfl,?_⟩
  rw [take_add_one,en]
  simp
  rfl
 rintro ys σ Hy _ ⟨⟨x1,x2,rfl⟩,rfl,rfl⟩ p2 hp2
 rw [<-hlen,take_length]
 have s2:=Same.new (o:=.lst ((qs.map Zft).map V.str)) hp2
 have hs:=ZfW (m:=126) (l:=qs.map Zft) fun x hx=>by
  obtain ⟨q,hq,rfl⟩:=mem_map.mp hx
  exact Zj5 (hqs q hq)
 rw [length_map] at hs
 walk_at"rd"
 refine ZeD (zs:=qs.map Zft) (SqL.of Zad) (by decide) (by rw [length_map];lia) ?_
 have hjl:(Str.join (Str.ofString "") (qs.map Zft)).length<=126 * 3:=by
  rw [<-Za0,ZgJ,length_flatten,map_map,map_map]
  rw [map_map] at hs
  refine Nat.le_trans (Nat.le_of_eq ?_) (Nat.le_trans hs (Nat.mul_le_mul_left _ hl))
  congr 1
 refine ZaQ (ZaN (by have:=hc.len;show (numS c).length+_<=_;lia)) ?_
 have e:=Zi4 c qs
 rw [show (toString c:Str)++Str.join (Str.ofString "") (qs.map Zft)=fT (c,qs) from e]
 exact k _ s2
theorem ZkC {H:Hp} {R:It->Hp->Prop} {a:Addr} {xs:List V} (h:SqT K H a xs) (q:R (Itt K a) H):itK K R (.ref a) H:=⟨a,rfl,⟨xs,h⟩,q⟩
theorem Zlo (wd:Str) (ns:List Int):(rowT wd ns).length+1=((wd::ns.map numS).map (·.length)).sum+(wd::ns.map numS).length:=by
 unfold rowT
 rw [Zcd]
 exact Zc6 (cons_ne_nil _ _)
theorem ZgE {d : Zh8} (h : Zlc d) : d.1.length <= 5 /\ d.2.1.length <= 2 /\ d.2.2.length <= 2 /\ ((d.1 = "hold" /\ d.2.1.length = 2) \/ (d.1 ≠ "hold" /\ d.2.1.length = 0)) := by
  obtain ⟨ks, hk, h1, h2⟩ := h
  have hh : ∀ q ∈ deedT, q.1.length <= 5 /\ q.2.countP (· == Zbs) <= 2 /\ q.2.countP (· == ZaY) <= 2 /\ ((q.1 = "hold" /\ q.2.countP (· == Zbs) = 2) \/ (q.1 ≠ "hold" /\ q.2.countP (· == Zbs) = 0)) := by decide +kernel
  have : ∀ (l : List (Str × List Str)), l.lookup d.1 = some ks -> (d.1, ks) ∈ l := by
    intro l
    induction l with
    | nil => intro h; cases h
    | cons q l ih =>
      intro h
      obtain ⟨a, b⟩ := q
      rw [lookup_cons] at h
      split at h
      · next e => cases h; rw [beq_iff_eq.mp e]; exact mem_cons_self
      · exact mem_cons_of_mem _ (ih h)
  rw [h1, h2]
  exact hh _ (this _ hk)
noncomputable def LnI (H:Hp) (q:Addr) (Hx:Hp) (ls:List Str):Prop:=Same H Hx/\Hx q=some (.lst (ls.map V.str))
theorem LnI.to {H Hx Hy:Hp} {q:Addr} {ls:List Str} (I:LnI H q Hx ls) (s:Same Hx Hy):LnI H q Hy ls:=⟨I.1.trans s,s _ _ I.2⟩
theorem LnI.app {H Hx:Hp} {q:Addr} {ls:List Str} {z:Str} (I:LnI H q Hx ls) (nq:H q=none):LnI H q (upd Hx q (.lst (ls.map V.str++[V.str z]))) (ls++[z]):=⟨fun a u e=>by
 rw [Zat (fun z=>by rw [z,nq] at e;cases e)]
 exact I.1 _ _ e,by rw [Zad,map_append];rfl⟩
theorem Zl5 {n:Nat}:ixN (n+1) (-1)=some n:=by
 unfold ixN
 rw [if_neg (by decide),if_pos (by lia)]
 congr 1
 lia
theorem ZhF {K:PySem.W.Frag} {H Hx:Hp} {q:Addr} {ls:List Str} {z:Str} {Q:VK} (I:LnI H q Hx (ls++[z])) (k:Q (.str z) Hx):rIxA K (.ref q) (.int (-1)) Hx Q:=Zaj I.2 (by rw [map_append];exact Zdu) k
theorem ZeC {H Hx:Hp} {q:Addr} {ls:List Str} {z z':Str} {R:Hp->Prop} (nq:H q=none) (I:LnI H q Hx (ls++[z])) (k:∀ Hy,LnI H q Hy (ls++[z'])->R Hy):ZjV (.ref q) (.int (-1)) (.str z') Hx R:=by
 refine Zcy (k:=ls.length) I.2 (by rw [length_map,length_append];exact Zl5) (k _ ⟨fun a u e=>?_,?_⟩)
 ·rw [Zat (fun z=>by rw [z,nq] at e;cases e)]
  exact I.1 _ _ e
 ·rw [Zad]
  congr 2
  rw [map_append,map_append]
  have:=set_append_right (s:=ls.map V.str) (t:=[z].map V.str) ls.length (V.str z') (by rw [length_map];exact Nat.le_refl _)
  rw [this,length_map,Nat.sub_self]
  rfl
theorem ZhE {H Hx:Hp} {q p:Addr} {ls:List Str} {z z':Str} {o:HO} {R:Hp->Prop} (nq:H q=none) (I:LnI H q Hx (ls++[z])) (hp:Hx p=some o) (np:p≠q) (k:∀ Hy,LnI H q Hy (ls++[z'])->Hy p=some o->R Hy):ZjV (.ref q) (.int (-1)) (.str z') Hx R:=by
 obtain ⟨p',xs,i,j,e1,e2,e3,e4,e5⟩:=ZeC (R:=fun Hy=>LnI H q Hy (ls++[z'])) nq I fun Hy I'=>I'
 cases e1
 exact ⟨q,xs,i,j,rfl,e2,e3,e4,k _ e5 (by rw [Zat np];exact hp)⟩
noncomputable def ZeV:D->Bool
 | .tup _=>true
 | _=>false
theorem Zib:∀ (ns:List Int),(ns.map D.int).filter ZeV=[]
 | []=>rfl
 | n::ns=>Zib ns
theorem ZgX : ∀ (es : List ZdW), (es.map ZcY).filter ZeV = es.map ZcY
  | [] => rfl
  | e :: es => by
    show ZcY e :: (es.map ZcY).filter ZeV = _
    rw [ZgX es]
    rfl
theorem Zg1 {st:ZaO} (h:SB st):(Za2 st).length<=8/\∀ x∈Za2 st,x.length<=1910:=by
 obtain ⟨d1,d2,d3,_⟩:=ZgE h.deed
 have hf:=h.few
 refine ⟨?_,fun x hx=>?_⟩
 ·unfold Za2
  simp only [length_cons,length_append,length_map]
  lia
 ·have row:∀ (w:Str) (ns:List Int),w.length<=10->ns.length<=2->(∀ n∈ns,N60 n)->(rowT w ns).length<=1910:=fun w ns hw hn hs=>by
   have hsz:=Zlo w ns
   have hm:=ZfW (m:=62) (l:=ns.map numS) fun x hx=>by
    obtain ⟨n,hn,rfl⟩:=mem_map.mp hx
    exact (hs n hn).len
   rw [length_map] at hm
   rw [map_cons,sum_cons,length_cons,length_map] at hsz
   lia
  rcases mem_cons.mp hx with rfl|hx
  ·exact row _ _ (by decide) (show 1<=2 by decide) fun n hn=>by rw [mem_singleton.mp hn];exact h.many
  ·rcases mem_append.mp hx with hx|hx
   ·obtain ⟨f,hf,rfl⟩:=mem_map.mp hx
    obtain ⟨o1,o2,o3⟩:=h.fr f hf
    exact Zeq (by decide) o1 o2 o3
   ·rcases mem_cons.mp hx with rfl|hx
    ·exact row _ _ (by lia) d2 h.nums
    ·obtain ⟨f,hf,rfl⟩:=mem_map.mp hx
     obtain ⟨o1,o2,o3⟩:=h.eds f hf
     exact Zeq (by decide) o1 o2 o3
theorem Zgx {sts : List ZaO} (h : ∀ st ∈ sts, SB st) : (sts.map Za2).flatten.length <= 8 * sts.length /\ ∀ x ∈ (sts.map Za2).flatten, x.length <= 1910 := by
  refine ⟨?_, fun x hx => ?_⟩
  · induction sts with
    | nil => exact Nat.le_refl _
    | cons st sts ih =>
      have h1 := (Zg1 (h st mem_cons_self)).1
      have h2 := ih fun s hs => h s (mem_cons_of_mem _ hs)
      rw [map_cons, flatten_cons, length_append, length_cons]
      lia
  · obtain ⟨l, hl, hx⟩ := mem_flatten.mp hx
    obtain ⟨st, hst, rfl⟩ := mem_map.mp hl
    exact (Zg1 (h st hst)).2 x hx
theorem SB.ok {st:ZaO} (h:SB st):WOk st:=⟨h.many.sm,fun f hf=>⟨(h.fr f hf).1.sm,(h.fr f hf).2.1.sm,fun g hg=>((h.fr f hf).2.2.2 g hg).ok⟩,fun n hn=>(h.nums n hn).sm,fun e he=>⟨(h.eds e he).1.sm,(h.eds e he).2.1.sm,fun g hg=>((h.eds e he).2.2.2 g hg).ok⟩,h.deed⟩
theorem Zjo {sts:List ZaO} {i:Nat} {st:ZaO} (e:sts[i]?=some st):((sts.take (i+1)).map Za2).flatten=((sts.take i).map Za2).flatten++Za2 st:=by
 rw [take_add_one,e,map_append,flatten_append]
 simp
theorem LB.cut {fs:List Zbj} (h:LB fs) (j:Nat):LB (fs.take j):=⟨Nat.le_trans (by rw [length_take];exact Nat.min_le_right _ _) h.1,fun f hf=>h.2 f (mem_of_mem_take hf)⟩
inductive TupG (H:Hp) (a b c:D) (x:V):Prop
 | mk (t:Addr) (u v w:V) (e:x=.ref t) (ht:H t=some (.tup [u,v,w])) (ru:Rep H a u) (rv:Rep H b v) (rw:Rep H c w)
theorem tup3 {H:Hp} {a b c:D} {x:V} (r:Rep H (.tup [a,b,c]) x):TupG H a b c x:=by
 obtain ⟨t,zs,rfl,ht,rz⟩:=ZaW r
 obtain ⟨u1,zr,rfl,r1,rz⟩:=ZaJ rz
 obtain ⟨u2,zr,rfl,r2,rz⟩:=ZaJ rz
 obtain ⟨u3,zr,rfl,r3,rz⟩:=ZaJ rz
 obtain rfl:=ZbD rz
 exact ⟨t,u1,u2,u3,rfl,ht,r1,r2,r3⟩
inductive FmsG (H:Hp) (fs:List Zbj) (x:V):Prop
 | mk (af:Addr) (xf:List V) (e:x=.ref af) (h:H af=some (.tup xf)) (r:Reps H (fs.map fD) xf) (l:fs.length=xf.length)
theorem ZkL {H:Hp} {fs:List Zbj} {x:V} (r:Rep H (Zer fs) x):FmsG H fs x:=by
 obtain ⟨af,xf,rfl,haf,rxf⟩:=ZaW r
 have hxl:=rxf.length
 rw [length_map] at hxl
 exact ⟨af,xf,rfl,haf,rxf,hxl⟩
inductive FrG (H:Hp) (a b:Int) (fs:List Zbj) (x:V):Prop
 | mk (t af:Addr) (xf:List V) (e:x=.ref t) (ht:H t=some (.tup [.int a,.int b,.ref af])) (h:H af=some (.tup xf)) (r:Reps H (fs.map fD) xf) (l:fs.length=xf.length)
theorem fr_get {H:Hp} {paper:List ZbK} {ys:List V} {j:Nat} {x:V} (r:Reps H (paper.map Zcp) ys) (hx:ys[j]?=some x):∃ a b fs,paper[j]?=some (a,b,fs)/\FrG H a b fs x:=by
 obtain ⟨d,ed,rd⟩:=r.get' hx
 rw [getElem?_map] at ed
 obtain ⟨g,en,rfl⟩:=Option.map_eq_some_iff.mp ed
 obtain ⟨fa,ft,fs⟩:=g
 obtain ⟨t,u,v,w,rfl,ht,ru,rv,rw'⟩:=tup3 (show Rep H (.tup [.int fa,.int ft,Zer fs]) x from rd)
 obtain rfl:=Zbq ru
 obtain rfl:=Zbq rv
 obtain ⟨af,xf,rfl,haf,rx,hl⟩:=ZkL rw'
 exact ⟨fa,ft,fs,en,⟨t,af,xf,rfl,ht,haf,rx,hl⟩⟩
inductive EdG (H:Hp) (a b:Int) (fs:List Zbj) (x:V):Prop
 | mk (t af:Addr) (xf:List V) (e:x=.ref t) (ht:H t=some (.tup [.int a,.ref af,.int b])) (h:H af=some (.tup xf)) (r:Reps H (fs.map fD) xf) (l:fs.length=xf.length)
theorem ed_get {H:Hp} {es:List ZdW} {ys:List V} {j:Nat} {x:V} (r:Reps H (es.map ZcY) ys) (hx:ys[j]?=some x):∃ a b fs,es[j]?=some (a,fs,b)/\EdG H a b fs x:=by
 obtain ⟨d,ed,rd⟩:=r.get' hx
 rw [getElem?_map] at ed
 obtain ⟨g,en,rfl⟩:=Option.map_eq_some_iff.mp ed
 obtain ⟨fa,fs,ft⟩:=g
 obtain ⟨t,u,v,w,rfl,ht,ru,rv,rw'⟩:=tup3 (show Rep H (.tup [.int fa,Zer fs,.int ft]) x from rd)
 obtain rfl:=Zbq ru
 obtain rfl:=Zbq rw'
 obtain ⟨af,xf,rfl,haf,rx,hl⟩:=ZkL rv
 exact ⟨fa,ft,fs,en,⟨t,af,xf,rfl,ht,haf,rx,hl⟩⟩
theorem ZmP {H:Hp} {fs:List Zbj} {xf:List V} {m:Nat} {x:V} (r:Reps H (fs.map fD) xf) (hx:xf[m]?=some x):∃ g,fs[m]?=some g/\Rep H (fD g) x:=by
 obtain ⟨d,ed,rd⟩:=r.get' hx
 rw [getElem?_map] at ed
 obtain ⟨g,en,rfl⟩:=Option.map_eq_some_iff.mp ed
 exact ⟨g,en,rd⟩
theorem Zkl {H Hw:Hp} {q:Addr} {L:List Str} {w:Str} {a b:Int} {fs:List Zbj} {m:Nat} {g:Zbj} (en:fs[m]?=some g) (I:LnI H q Hw (L++[ZaM w a b (fs.take m)++Str.ofString " "++fT g])):LnI H q Hw (L++[ZaM w a b (fs.take (m+1))]):=by
 rw [take_add_one,en]
 have e:=Zi1 w a b (fs.take m) g
 rw [show fs.take m++(some g).toList=fs.take m++[g] from rfl,e]
 exact I
theorem Zn7 {paper:List ZbK} {j:Nat} {fa ft:Int} {fs:List Zbj} {L:List Str} (en:paper[j]?=some (fa,ft,fs)):L++(paper.take (j+1)).map (fun f=>ZaM ZaH f.1 f.2.1 f.2.2)=L++(paper.take j).map (fun f=>ZaM ZaH f.1 f.2.1 f.2.2)++[ZaM ZaH fa ft fs]:=by
 rw [take_add_one,en]
 simp
theorem Zof {es:List ZdW} {j:Nat} {ra rk:Int} {fs:List Zbj} {L:List Str} (en:es[j]?=some (ra,fs,rk)):L++(es.take (j+1)).map (fun e=>ZaM ZaY e.1 e.2.2 e.2.1)=L++(es.take j).map (fun e=>ZaM ZaY e.1 e.2.2 e.2.1)++[ZaM ZaY ra rk fs]:=by
 rw [take_add_one,en]
 simp
theorem len2 {ns:List Int} (h:ns.length=2):∃ a b,ns=[a,b]:=by
 rcases ns with _|⟨a,_|⟨b,_|⟨c,r⟩⟩⟩
 ·cases h
 ·cases h
 ·exact ⟨a,b,rfl⟩
 ·simp at h
inductive Pr_lwritten (x:V) (H:Hp) (Q:VK):Prop
 | mk (p sts vs) (_:x=.ref p) (_:H p=some (.lst vs)) (_:SAll H sts vs) (_:∀ st∈sts,SB st) (_:sts.length<=5) (_:∀ H',Same H H'->Q (.str (ZfO sts)) H'):Pr_lwritten x H Q
noncomputable def ZhC:Sp:=sp1 (Pr_lwritten)
theorem sc__law_lane_written:FnScope ["lane","lines","many","paper","deed","f","at","forms","form","rows","moves","k"] ["lane"] (Zam Zbo):=⟨rfl,rfl,rfl,by decide +kernel,rfl,by decide +kernel,by decide +kernel⟩
theorem Zd3 (B:Blt mg) (T__law_lane_written:TopFn K mg "_law_lane_written" Zbo ["lane"]) (ZbB:Callee P w K mg base "_law_form_written" 1 ["form"] Zfi):Callee P w K mg base "_law_lane_written" 2 ["lane"] ZhC:=by
 refine T__law_lane_written.ok1 sc__law_lane_written fun f cdv A outer s H v1 Q E hr h=>?_
 have nd:=sc__law_lane_written.nd
 obtain ⟨p,sts,vs,rfl,hp,sa,ok,hl5,k⟩:=h
 have hvl:=sa.1
 refine' Zbl [some (.ref p),none,none,none,none,none,none,none,none,none,none,none] rfl ?hb ?hg
 case' hb=>refine' Zae ?bab ?bac
 case bab=>exact (Zcm (i:=1) nd rfl (Or.inl rfl) (Zba Zab))
 case' bac=>refine' Zae ?bad ?bae
 case' bad=>refine' Zch ?baf ?bag ?bah ?bai ?baj
 case baf=>exact PassesOwn.never
 case bag=>exact rfl
 case bah=>exact (Za4 (K:=K) rfl (pv 0))
 case' bai=>refine' Zeo (K:=K) (n:=3) ?bak ?bal ?bam
 case bak=>exact rfl
 case bal=>exact rfl
 case' bam=>refine' ZbJ ?ban ?bao
 case ban=>exact (ZaE (i:=2) nd rfl (Or.inl rfl))
 case bao=>exact (ZbJ (ZaE (i:=3) nd rfl (Or.inl rfl)) (ZbJ (ZaE (i:=4) nd rfl (Or.inl rfl)) Zfp))
 case' baj=>refine' Zae ?bap ?baq
 case' bap=>refine' Zby ?bar
 case' bar=>refine' k_bm (K:=K) ?bas ?bat ?bau ?bav ?baw ?bax ?bay
 case bas=>exact rfl
 case bat=>exact PySem.F.plainAttrs_list
 case bau=>exact PySem.F.slot_list_append
 case bav=>exact PySem.F.type_list_append
 case baw=>exact Za3
 case bax=>exact (pv 1)
 case bay=>exact (Zbi (Zar ZaR Zak (ZaI ZbM (by rfl) B.b_str ZdB (Zac (pv 2) Zab))) Zab)
 case' baq=>refine' Zae ?baz ?bba
 case' baz=>refine' Zch ?bbb ?bbc ?bbd ?bbe ?bbf
 case bbb=>exact PassesOwn.never
 case bbc=>exact rfl
 case bbd=>exact (Za4 (K:=K) rfl (pv 3))
 case' bbe=>refine' Zeo (K:=K) (n:=3) ?bbg ?bbh ?bbi
 case bbg=>exact rfl
 case bbh=>exact rfl
 case' bbi=>refine' ZbJ ?bbj ?bbk
 case bbj=>exact (ZaE (i:=5) nd rfl (Or.inl rfl))
 case bbk=>exact (ZbJ (ZaE (i:=6) nd rfl (Or.inl rfl)) (ZbJ (ZaE (i:=7) nd rfl (Or.inl rfl)) Zfp))
 case' bbf=>refine' Zae ?bbl ?bbm
 case' bbl=>refine' Zby ?bbn
 case' bbn=>refine' k_bm (K:=K) ?bbo ?bbp ?bbq ?bbr ?bbs ?bbt ?bbu
 case bbo=>exact rfl
 case bbp=>exact PySem.F.plainAttrs_list
 case bbq=>exact PySem.F.slot_list_append
 case bbr=>exact PySem.F.type_list_append
 case bbs=>exact Za3
 case bbt=>exact (pv 1)
 case' bbu=>refine' Zbi ?bbv ?bbw
 case' bbv=>refine' Zar ?bbx ?bby ?bbz
 case bbx=>exact ZaR
 case bby=>exact (Zar ZaR (Zar ZaR Zak (ZaI ZbM (by rfl) B.b_str ZdB (Zac (pv 5) Zab))) Zak)
 case bbz=>exact (ZaI ZbM (by rfl) B.b_str ZdB (Zac (pv 6) Zab))
 case bbw=>exact Zab
 case' bbm=>refine' Zag ?bca
 case' bca=>refine' Zch ?bcb ?bcc ?bcd ?bce ?bcf
 case bcb=>exact PassesOwn.never
 case bcc=>exact rfl
 case bcd=>exact (Ze8 (K:=K) rfl (pv 7))
 case bce=>exact (ZaE (i:=8) nd rfl (Or.inl rfl))
 case' bcf=>refine' Zag ?bcg
 case' bcg=>refine' ZcQ ?bch ?bci
 case' bch=>refine' Zar ?bcj ?bck ?bcl
 case bcj=>exact ZaR
 case bck=>exact (Zar ZaR (Zao (k_ix (K:=K) rfl) (pv 1) (ZdF Zce Zaa) (fun _ _=>rfl)) Zak)
 case bcl=>exact (Za7 ZbB (hr.mono (by first|decide|lia)) (by rfl) (Zac (pv 8) Zab))
 case bci=>exact (Zc3 (pv 1) (ZdF Zce Zaa) ZbG)
 case' bba=>refine' Zae ?bcm ?bcn
 case' bcm=>refine' Zby ?bco
 case' bco=>refine' k_bm (K:=K) ?bcp ?bcq ?bcr ?bcs ?bct ?bcu ?bcv
 case bcp=>exact rfl
 case bcq=>exact PySem.F.plainAttrs_list
 case bcr=>exact PySem.F.slot_list_append
 case bcs=>exact PySem.F.type_list_append
 case bct=>exact Za3
 case bcu=>exact (pv 1)
 case bcv=>exact (Zap (Zao (k_ix (K:=K) rfl) (pv 4) Zaa (fun _ _=>rfl)) Zab)
 case' bcn=>refine' Zae ?bcw ?bcx
 case' bcw=>refine' Za1 ?bcy ?bcz ?bda
 case bcy=>exact (Zal Zbc (Zao (k_ix (K:=K) rfl) (pv 4) Zaa (fun _ _=>rfl)) Zak (Zas _))
 case' bcz=>refine' Zag ?bdb
 case' bdb=>refine' ZcQ ?bdc ?bdd
 case' bdc=>refine' Zar ?bde ?bdf ?bdg
 case bde=>exact ZaR
 case' bdf=>refine' Zar ?bdh ?bdi ?bdj
 case bdh=>exact ZaR
 case' bdi=>refine' Zar ?bdk ?bdl ?bdm
 case bdk=>exact ZaR
 case bdl=>exact (Zar ZaR (Zao (k_ix (K:=K) rfl) (pv 1) (ZdF Zce Zaa) (fun _ _=>rfl)) Zak)
 case bdm=>exact (ZaI ZbM (by rfl) B.b_str ZdB (Zap (Zao (k_ix (K:=K) rfl) (pv 4) Zaa (fun _ _=>rfl)) Zab))
 case bdj=>exact Zak
 case bdg=>exact (ZaI ZbM (by rfl) B.b_str ZdB (Zap (Zao (k_ix (K:=K) rfl) (pv 4) Zaa (fun _ _=>rfl)) Zab))
 case bdd=>exact (Zc3 (pv 1) (ZdF Zce Zaa) ZbG)
 case bda=>exact Zaz
 case' bcx=>refine' Zag ?bdn
 case' bdn=>refine' Zch ?bdo ?bdp ?bdq ?bdr ?bds
 case bdo=>exact PassesOwn.never
 case bdp=>exact rfl
 case' bdq=>refine' Za4 (K:=K) ?bdt ?bdu
 case bdt=>exact rfl
 case' bdu=>refine' ZdH (LN:=["part"]) (FN:=[]) (fr:=[]) ?bdv ?bdw ?bdx ?bdy ?bdz ?bea
 case bdv=>exact rfl
 case bdw=>exact (ZdO (by rfl))
 case bdx=>exact (Ze8 (K:=K) rfl (pv 4))
 case' bdy=>intro cl C fp pins s H
 case bdy=>exact (ZaE (i:=0) (show ((["part"]:List Str)++([]:List Str)).Nodup by decide +kernel) rfl (Or.inl rfl))
 case' bdz=>intro cl C fp pins s H
 case' bdz=>refine' ZhI ?beb
 case' beb=>refine' Zf4 ?bec
 case' bec=>refine' Zaw ?bed ?bee ?bef ?beg ?beh
 case bed=>exact Zcw
 case bee=>exact (by rfl)
 case bef=>exact B.b_isinstance
 case beg=>exact ZaK
 case beh=>exact (Zac (pv 0) (Zac (Zb0 (v:=.ty "tuple") (by rfl) B.b_tuple ZbS rfl) Zab))
 case' bea=>intro cl C fp pins s H
 case bea=>exact (pv 0)
 case' bdr=>refine' Zeo (K:=K) (n:=3) ?bei ?bej ?bek
 case bei=>exact rfl
 case bej=>exact rfl
 case' bek=>refine' ZbJ ?bel ?bem
 case bel=>exact (ZaE (i:=9) nd rfl (Or.inl rfl))
 case bem=>exact (ZbJ (ZaE (i:=10) nd rfl (Or.inl rfl)) (ZbJ (ZaE (i:=11) nd rfl (Or.inl rfl)) Zfp))
 case' bds=>refine' Zae ?ben ?beo
 case' ben=>refine' Zby ?bep
 case' bep=>refine' k_bm (K:=K) ?beq ?ber ?bes ?bet ?beu ?bev ?bew
 case beq=>exact rfl
 case ber=>exact PySem.F.plainAttrs_list
 case bes=>exact PySem.F.slot_list_append
 case bet=>exact PySem.F.type_list_append
 case beu=>exact Za3
 case bev=>exact (pv 1)
 case' bew=>refine' Zbi ?bex ?bey
 case' bex=>refine' Zar ?bez ?bfa ?bfb
 case bez=>exact ZaR
 case bfa=>exact (Zar ZaR (Zar ZaR Zak (ZaI ZbM (by rfl) B.b_str ZdB (Zac (pv 9) Zab))) Zak)
 case bfb=>exact (ZaI ZbM (by rfl) B.b_str ZdB (Zac (pv 11) Zab))
 case bey=>exact Zab
 case' beo=>refine' Zag ?bfc
 case' bfc=>refine' Zch ?bfd ?bfe ?bff ?bfg ?bfh
 case bfd=>exact PassesOwn.never
 case bfe=>exact rfl
 case bff=>exact (Ze8 (K:=K) rfl (pv 10))
 case bfg=>exact (ZaE (i:=8) nd rfl (Or.inl rfl))
 case' bfh=>refine' Zag ?bfi
 case' bfi=>refine' ZcQ ?bfj ?bfk
 case' bfj=>refine' Zar ?bfl ?bfm ?bfn
 case bfl=>exact ZaR
 case bfm=>exact (Zar ZaR (Zao (k_ix (K:=K) rfl) (pv 1) (ZdF Zce Zaa) (fun _ _=>rfl)) Zak)
 case bfn=>exact (Za7 ZbB (hr.mono (by first|decide|lia)) (by rfl) (Zac (pv 8) Zab))
 case bfk=>exact (Zc3 (pv 1) (ZdF Zce Zaa) ZbG)
 case' bae=>refine' Zag ?bfo
 case bfo=>exact (ZaD (k_bm (K:=K) rfl PySem.F.plainAttrs_str PySem.F.slot_str_join PySem.F.type_str_join (ZeU (K:=K) rfl) Zak (Zac (pv 1) Zab)))
 walk_at"rd"
 walk_at"mk";intro q nq
 have I0:LnI H q (upd H q (.lst [])) []:=⟨Same.new nq,Zad⟩
 generalize upd H q (.lst [])=H0 at I0
 walk_at"rd"
 refine Zb4 (SqL.of (I0.1 _ _ hp)) ?_
 refine ZcD (xs:=vs) (fun i σ Hx=>Ex10 fun x2 x3 x4 x5 x6 x7 x8 x9 x10 x11=>σ=[some (.ref p),some (.ref q),x2,x3,x4,x5,x6,x7,x8,x9,x10,x11]/\LnI H q Hx ((sts.take i).map Za2).flatten) ⟨none,none,none,none,none,none,none,none,none,none,rfl,I0⟩ (fun i σ Hx _ z_=>by obtain ⟨_,_,_,_,_,_,_,_,_,_,_,I⟩:=z_;exact SqL.of (I.1 _ _ hp)) ?_ ?_
 ·rintro i x σ Hx hx ⟨x2,x3,x4,x5,x6,x7,x8,x9,x10,x11,rfl,I⟩ N0 hN0
  have hil:=(List.getElem?_eq_some_iff.mp hx).1
  have est:sts[i]?=some (sts[i]'(by lia)):=getElem?_eq_getElem (by lia)
  generalize sts[i]'(by lia)=st at est
  have SBs:=ok st (mem_of_getElem? est)
  obtain ⟨many,paper,wd,ns,es⟩:=st
  obtain ⟨t,l,ys,vd,rfl,ht,hl,ry,rd⟩:=sa.2 i _ x est hx
  replace hN0:∀ σ' Hy',(∃ x2 x3 x4 x5 x6 x7 x8 x9 x10 x11,σ'=[some (.ref p),some (.ref q),x2,x3,x4,x5,x6,x7,x8,x9,x10,x11])->LnI H q Hy' (((sts.take i).map Za2).flatten++Za2 (many,paper,wd,ns,es))->N0 σ' Hy':=fun σ' Hy' ⟨x2,x3,x4,x5,x6,x7,x8,x9,x10,x11,e⟩ I=>hN0 σ' Hy' ⟨x2,x3,x4,x5,x6,x7,x8,x9,x10,x11,e,by rw [show ((sts.take (i+1)).map Za2).flatten=((sts.take i).map Za2).flatten++Za2 (many,paper,wd,ns,es) from Zjo est];exact I⟩
  have hcut:=(Zgx (sts:=sts.take i) fun s hs=>ok s (mem_of_mem_take hs)).1
  rw [length_take] at hcut
  generalize ((sts.take i).map Za2).flatten=L0 at I hcut hN0
  have hL0:L0.length<=40:=by lia
  have hmany:N60 many:=SBs.many
  have hfr:∀ g∈paper,FRB g:=SBs.fr
  have hfew:paper.length<=4:=SBs.few
  have hns:∀ n∈ns,N60 n:=SBs.nums
  have hes:∀ e∈es,EB e:=SBs.eds
  obtain ⟨d1,d2,d3,d4⟩:=ZgE SBs.deed
  dsimp only at d1 d2 d3 d4
  have hyl:=ry.length
  rw [length_map] at hyl
  have hyl:paper.length=ys.length:=hyl
  have ry:Reps H (paper.map Zcp) ys:=ry
  have rd:Rep H (.tup (.str wd::(ns.map D.int++es.map ZcY))) vd:=rd
  have ht:H t=some (.tup [.int many,.ref l,vd]):=ht
  walk_at"rd"
  refine ZeE (I.1 _ _ ht) rfl ?_
  walk_at"rd"
  refine ⟨.inl ⟨rfl,_,SqL.of I.2⟩,?_⟩
  walk_at"rd"
  refine ZcW (ZdX hmany.sm) ?_
  refine ZaQ (ZaN (by have:=hmany.len;show 6+(numS many).length<=_;lia)) ?_
  walk_at"rd"
  refine ZaV I.2 (Nat.lt_of_le_of_lt (show (L0.map V.str).length<=1000 by rw [length_map];lia) (by decide)) ?_
  have e1:Str.ofString "stand "++(toString many:Str)=rowT ZaL [many]:=by
   apply Zet
   unfold rowT
   rw [Zcd,Zbg,map_cons,ZiA,Za8,show cs (Str.ofString "stand ")=cs ZaL++[32] from by decide]
   show _++cs (numS many)=_
   simp
  rw [e1]
  have I1:=I.app (z:=rowT ZaL [many]) nq
  generalize upd Hx q (.lst (L0.map V.str++[V.str (rowT ZaL [many])]))=H1 at I1
  walk_at"rd"
  refine Zb4 (SqL.of (I1.1 _ _ hl)) ?_
  refine ZcD (xs:=ys) (fun j σ Hy=>Ex4 fun y5 y6 y7 y8=>σ=[some (.ref p),some (.ref q),some (.int many),some (.ref l),some vd,y5,y6,y7,y8,x9,x10,x11]/\LnI H q Hy (L0++[rowT ZaL [many]]++(paper.take j).map fun f=>ZaM ZaH f.1 f.2.1 f.2.2)) ⟨x5,x6,x7,x8,rfl,by rw [take_zero,map_nil,append_nil];exact I1⟩ (fun j σ Hy _ z_=>by obtain ⟨_,_,_,_,_,I⟩:=z_;exact SqL.of (I.1 _ _ hl)) ?_ ?_
  ·rintro j x σ Hy hx ⟨y5,y6,y7,y8,rfl,I2⟩ N hN
   obtain ⟨fa,ft,fs,en,t5,af,xf,rfl,ht5,haf,rxf,hxl⟩:=fr_get ry hx
   obtain ⟨o1,o2,o3⟩:N60 fa/\N60 ft/\LB fs:=hfr _ (mem_of_getElem? en)
   have hcl:(L0++[rowT ZaL [many]]++(paper.take j).map fun f=>ZaM ZaH f.1 f.2.1 f.2.2).length<=100:=by
    simp only [length_append,length_map,length_take,length_cons,length_nil]
    lia
   replace hN:∀ σ' Hy',(∃ y5 y6 y7 y8,σ'=[some (.ref p),some (.ref q),some (.int many),some (.ref l),some vd,y5,y6,y7,y8,x9,x10,x11])->LnI H q Hy' ((L0++[rowT ZaL [many]]++(paper.take j).map fun f=>ZaM ZaH f.1 f.2.1 f.2.2)++[ZaM ZaH fa ft fs])->N σ' Hy':=fun σ' Hy' ⟨y5,y6,y7,y8,e⟩ I=>hN σ' Hy' ⟨y5,y6,y7,y8,e,by rw [Zn7 en];exact I⟩
   generalize (L0++[rowT ZaL [many]]++(paper.take j).map fun f=>ZaM ZaH f.1 f.2.1 f.2.2)=L1 at I2 hcl hN
   refine ZeE (I2.1 _ _ ht5) rfl ?_
   walk_at"rd"
   refine ⟨.inl ⟨rfl,_,SqL.of I2.2⟩,?_⟩
   have la:=o1.len
   have lb:=o2.len
   walk_at"rd"
   refine ZcW (ZdX o1.sm) ?_
   refine ZaQ (ZaN (show 6+(numS fa).length<=_ by lia)) ?_
   walk_at"rd"
   refine ZaQ (ZaN (by rw [ZaC];show 6+(numS fa).length+1<=_;lia)) ?_
   walk_at"rd"
   refine ZcW (ZdX o2.sm) ?_
   refine ZaQ (ZaN (by rw [ZaC,ZaC];show 6+(numS fa).length+1+(numS ft).length<=_;lia)) ?_
   walk_at"rd"
   refine ZaV I2.2 (Nat.lt_of_le_of_lt (show (L1.map V.str).length<=1000 by rw [length_map];lia) (by decide)) ?_
   have e2:Str.ofString "frame "++(toString fa:Str)++Str.ofString " "++(toString ft:Str)=ZaM ZaH fa ft []:=(ZfE ZaH fa ft).symm
   rw [e2]
   have I3:=I2.app (z:=ZaM ZaH fa ft []) nq
   generalize upd Hy q (.lst (L1.map V.str++[V.str (ZaM ZaH fa ft [])]))=H3 at I3
   walk_at"rd"
   refine ZkC (SqT.of (I3.1 _ _ haf)) ?_
   refine ZiD (xs:=xf) (fun m σ Hz=>∃ y8,σ=[some (.ref p),some (.ref q),some (.int many),some (.ref l),some vd,some (.int fa),some (.int ft),some (.ref af),y8,x9,x10,x11]/\LnI H q Hz (L1++[ZaM ZaH fa ft (fs.take m)])) ⟨y8,rfl,I3⟩ (fun m σ Hz _ z_=>by obtain ⟨_,_,I⟩:=z_;exact SqT.of (I.1 _ _ haf)) ?_ ?_
   ·rintro m x σ Hz hx ⟨y8,rfl,I4⟩ N2 hN2
    obtain ⟨g,en,rdm⟩:=ZmP rxf hx
    have hg:=o3.2 g (mem_of_getElem? en)
    have l1:=Zeq (w:=ZaH) (by decide) o1 o2 (o3.cut m)
    have l2:=ZgB hg
    walk_at"rd"
    refine ZhF I4 ?_
    walk_at"rd"
    refine ZaQ (ZaN (show (ZaM ZaH fa ft (fs.take m)).length+1<=_ by lia)) ?_
    walk_at"rd"
    refine use1 ⟨g,rdm.mono I4.1.ts,hg,fun H5 s5=>?_⟩
    refine ZaQ (ZaN (by rw [ZaC];show (ZaM ZaH fa ft (fs.take m)).length+1+_<=_;lia)) ?_
    walk_at"rd"
    refine ZeC nq (I4.to s5) fun Hw I6=>?_
    exact hN2 _ _ ⟨_,rfl,Zkl en I6⟩
   ·rintro σ Hz ⟨y8,rfl,I4⟩
    rw [<-hxl,take_length] at I4
    exact hN _ _ ⟨_,_,_,_,rfl⟩ I4
  rintro σ H2 ⟨y5,y6,y7,y8,rfl,I2⟩
  rw [<-hyl,take_length] at I2
  have hcl:(L0++[rowT ZaL [many]]++paper.map fun f=>ZaM ZaH f.1 f.2.1 f.2.2).length<=100:=by
   simp only [length_append,length_map,length_cons,length_nil]
   lia
  have eSt:L0++Za2 (many,paper,wd,ns,es)=(L0++[rowT ZaL [many]]++paper.map fun f=>ZaM ZaH f.1 f.2.1 f.2.2)++[rowT wd ns]++es.map fun e=>ZaM ZaY e.1 e.2.2 e.2.1:=by
   unfold Za2
   simp only [append_assoc,cons_append,nil_append]
  try dsimp +zetaDelta only
  rw [eSt] at hN0
  generalize (L0++[rowT ZaL [many]]++paper.map fun f=>ZaM ZaH f.1 f.2.1 f.2.2)=L1 at I2 hcl hN0
  walk_at"rd"
  refine ⟨.inl ⟨rfl,_,SqL.of I2.2⟩,?_⟩
  have rd2:=rd.mono I2.1.ts
  walk_at"rd"
  refine Zik (n:=0) rd2 rfl rfl fun u ru=>?_
  obtain rfl:u=.str wd:=by rwa [Rep] at ru
  walk_at"rd"
  refine ZaV I2.2 (Nat.lt_of_le_of_lt (show (L1.map V.str).length<=1000 by rw [length_map];lia) (by decide)) ?_
  have I3:=I2.app (z:=wd) nq
  generalize upd H2 q (.lst (L1.map V.str++[V.str wd]))=H3 at I3
  refine Zfk ?_
  try dsimp +zetaDelta only
  refine Zfl (fun σ' H'=>σ'=[some (.ref p),some (.ref q),some (.int many),some (.ref l),some vd,y5,y6,y7,y8,x9,x10,x11]/\LnI H q H' (L1++[rowT wd ns])) ?_ fun N hN=>?_
  rotate_left
  ·walk_at"rd"
   have rd3:=rd.mono I3.1.ts
   refine Zik (n:=0) rd3 rfl rfl fun u ru=>?_
   obtain rfl:u=.str wd:=by rwa [Rep] at ru
   walk_at"rd"
   refine ZaS (fun hh=>?_) (fun hh=>?_)
   ·rcases d4 with ⟨_,hn2⟩|⟨hn,_⟩
    ·obtain ⟨a,b,rfl⟩:=len2 hn2
     have ha:=hns a mem_cons_self
     have hb:=hns b (mem_cons_of_mem _ mem_cons_self)
     have la:=ha.len
     have lb:=hb.len
     walk_at"rd"
     refine ZhF I3 ?_
     walk_at"rd"
     refine ZaQ (ZaN (show wd.length+1<=_ by lia)) ?_
     walk_at"rd"
     refine ZjH (n:=1) rd3 rfl rfl ?_
     walk_at"rd"
     refine ZcW (ZdX ha.sm) ?_
     refine ZaQ (ZaN (by rw [ZaC];show wd.length+1+(numS a).length<=_;lia)) ?_
     walk_at"rd"
     refine ZaQ (ZaN (by rw [ZaC,ZaC];show wd.length+1+(numS a).length+1<=_;lia)) ?_
     walk_at"rd"
     refine ZjH (n:=2) rd3 rfl rfl ?_
     walk_at"rd"
     refine ZcW (ZdX hb.sm) ?_
     refine ZaQ (ZaN (by rw [ZaC,ZaC,ZaC];show wd.length+1+(numS a).length+1+(numS b).length<=_;lia)) ?_
     walk_at"rd"
     refine ZeC nq I3 fun Hw I6=>?_
     refine hN _ _ ⟨rfl,?_⟩
     have e:=ZfE wd a b
     rw [show rowT wd [a,b]=ZaM wd a b [] from rfl,e]
     exact I6
    ·exact absurd hh hn
   ·rcases d4 with ⟨hn,_⟩|⟨_,hn⟩
    ·exact absurd hn hh
    ·obtain rfl:=eq_nil_of_length_eq_zero hn
     walk_at"rd"
     exact hN _ _ ⟨rfl,I3⟩
  rintro σ' H4 ⟨rfl,I4⟩
  clear I3 I2 I1 I rd2
  walk_at"rd"
  have rd4:=rd.mono I4.1.ts
  obtain ⟨ad,xd,rfl,had,rxd⟩:=ZaW rd
  have hxd:=rxd.length
  simp only [length_cons,length_append,length_map] at hxd
  refine ZkC (SqT.of (I4.1 _ _ had)) ?_
  refine ZmT (xs:=xd) (ZaN (by lia)) (fun j zs σ Hy=>An3 (∃ x1,σ=[x1]) (Hy=H4) (Reps H (((D.str wd::(ns.map D.int++es.map ZcY)).take j).filter ZeV) zs)) ⟨⟨none,rfl⟩,rfl,Zaq⟩ (fun j zs σ Hy _ z_=>by obtain ⟨_,e,_⟩:=z_;rw [e];exact SqT.of (I4.1 _ _ had)) ?_ ?_
  ·rintro j x zs σ Hy hx hle hlt ⟨⟨x1,rfl⟩,rfl,rz⟩
   obtain ⟨d,ed,rd'⟩:=rxd.get' hx
   have cutE:((D.str wd::(ns.map D.int++es.map ZcY)).take (j+1)).filter ZeV=((D.str wd::(ns.map D.int++es.map ZcY)).take j).filter ZeV++[d].filter ZeV:=by
    rw [take_add_one,ed,filter_append]
    rfl
   have hd:=mem_of_getElem? ed
   walk_at"rd"
   rcases mem_cons.mp hd with rfl|hd
   ·obtain rfl:x=.str wd:=by rwa [Rep] at rd'
    refine Zcg (t:="str") rfl (by simp) ⟨_,rfl,iteF ?_⟩
    refine ⟨by lia,⟨_,rfl⟩,rfl,?_⟩
    rw [cutE]
    exact (append_nil _).symm▸rz
   rcases mem_append.mp hd with hd|hd
   ·obtain ⟨n,_,rfl⟩:=mem_map.mp hd
    obtain rfl:=Zbq rd'
    refine Zcg (t:="int") rfl (by simp) ⟨_,rfl,iteF ?_⟩
    refine ⟨by lia,⟨_,rfl⟩,rfl,?_⟩
    rw [cutE]
    exact (append_nil _).symm▸rz
   ·obtain ⟨e,_,rfl⟩:=mem_map.mp hd
    refine Zcg (Zm4 (rd'.mono I4.1.ts)) (by simp) ⟨_,rfl,iteT ?_⟩
    walk_at"rd"
    refine ⟨hlt,by simpa using hle,⟨_,rfl⟩,rfl,?_⟩
    rw [cutE]
    exact rz.append (Zai rd' Zaq)
  rintro zs σ Hy _ ⟨⟨x1,rfl⟩,rfl,rz⟩ p5 hp5
  rw [<-rxd.length,take_length,filter_cons,if_neg (show ¬ ZeV (D.str wd)=true from fun z=>by cases z),filter_append,Zib,ZgX,nil_append] at rz
  have hzl:=rz.length
  rw [length_map] at hzl
  have s5:=Same.new (o:=.lst zs) hp5
  have e5:upd Hy p5 (.lst zs) p5=some (.lst zs):=Zad
  have I5:=I4.to s5
  have n5:p5≠q:=fun z=>by rw [z,I4.2] at hp5;cases hp5
  generalize upd Hy p5 (.lst zs)=H5 at s5 e5 I5
  refine Zb4 (SqL.of e5) ?_
  refine ZcD (xs:=zs) (fun j σ Hz=>Ex4 fun z8 z9 z10 z11=>An3 (σ=[some (.ref p),some (.ref q),some (.int many),some (.ref l),some (.ref ad),y5,y6,y7,z8,z9,z10,z11]) (LnI H q Hz (L1++[rowT wd ns]++(es.take j).map fun e=>ZaM ZaY e.1 e.2.2 e.2.1)) (Hz p5=some (.lst zs))) ⟨y8,x9,x10,x11,rfl,by rw [take_zero,map_nil,append_nil];exact I5,e5⟩ (fun j σ Hz _ z_=>by obtain ⟨_,_,_,_,_,_,e⟩:=z_;exact SqL.of e) ?_ ?_
  ·rintro j x σ Hz hx ⟨z8,z9,z10,z11,rfl,I6,e6⟩ N hN
   obtain ⟨ra,rk,fs,en,t5,af,xf,rfl,ht5,haf,rxf,hxl⟩:=ed_get rz hx
   obtain ⟨o1,o2,o3⟩:N60 ra/\N60 rk/\LB fs:=hes _ (mem_of_getElem? en)
   have hcl:(L1++[rowT wd ns]++(es.take j).map fun e=>ZaM ZaY e.1 e.2.2 e.2.1).length<=200:=by
    simp only [length_append,length_map,length_take,length_cons,length_nil]
    lia
   replace hN:∀ σ' Hy',(∃ z8 z9 z10 z11,σ'=[some (.ref p),some (.ref q),some (.int many),some (.ref l),some (.ref ad),y5,y6,y7,z8,z9,z10,z11])->LnI H q Hy' ((L1++[rowT wd ns]++(es.take j).map fun e=>ZaM ZaY e.1 e.2.2 e.2.1)++[ZaM ZaY ra rk fs])->Hy' p5=some (.lst zs)->N σ' Hy':=fun σ' Hy' ⟨y5,y6,y7,y8,e⟩ I e2=>hN σ' Hy' ⟨y5,y6,y7,y8,e,by rw [Zof en];exact I,e2⟩
   generalize (L1++[rowT wd ns]++(es.take j).map fun e=>ZaM ZaY e.1 e.2.2 e.2.1)=L2' at I6 hcl hN
   refine ZeE (I6.1 _ _ ht5) rfl ?_
   walk_at"rd"
   refine ⟨.inl ⟨rfl,_,SqL.of I6.2⟩,?_⟩
   have la:=o1.len
   have lb:=o2.len
   walk_at"rd"
   refine ZcW (ZdX o1.sm) ?_
   refine ZaQ (ZaN (show 5+(numS ra).length<=_ by lia)) ?_
   walk_at"rd"
   refine ZaQ (ZaN (by rw [ZaC];show 5+(numS ra).length+1<=_;lia)) ?_
   walk_at"rd"
   refine ZcW (ZdX o2.sm) ?_
   refine ZaQ (ZaN (by rw [ZaC,ZaC];show 5+(numS ra).length+1+(numS rk).length<=_;lia)) ?_
   walk_at"rd"
   refine ZaV I6.2 (Nat.lt_of_le_of_lt (show (L2'.map V.str).length<=1000 by rw [length_map];lia) (by decide)) ?_
   have e2:Str.ofString "edge "++(toString ra:Str)++Str.ofString " "++(toString rk:Str)=ZaM ZaY ra rk []:=(ZfE ZaY ra rk).symm
   rw [e2]
   have I7:=I6.app (z:=ZaM ZaY ra rk []) nq
   have e7:upd Hz q (.lst (L2'.map V.str++[V.str (ZaM ZaY ra rk [])])) p5=some (.lst zs):=by rw [Zat n5];exact e6
   generalize upd Hz q (.lst (L2'.map V.str++[V.str (ZaM ZaY ra rk [])]))=H7 at I7 e7
   walk_at"rd"
   refine ZkC (SqT.of (I7.1 _ _ haf)) ?_
   refine ZiD (xs:=xf) (fun m σ Hw=>∃ z8,An3 (σ=[some (.ref p),some (.ref q),some (.int many),some (.ref l),some (.ref ad),y5,y6,y7,z8,some (.int ra),some (.ref af),some (.int rk)]) (LnI H q Hw (L2'++[ZaM ZaY ra rk (fs.take m)])) (Hw p5=some (.lst zs))) ⟨z8,rfl,I7,e7⟩ (fun m σ Hw _ z_=>by obtain ⟨_,_,I,_⟩:=z_;exact SqT.of (I.1 _ _ haf)) ?_ ?_
   ·rintro m x σ Hw hx ⟨z8,rfl,I8,e8⟩ N2 hN2
    obtain ⟨g,en,rdm⟩:=ZmP rxf hx
    have hg:=o3.2 g (mem_of_getElem? en)
    have l1:=Zeq (w:=ZaY) (by decide) o1 o2 (o3.cut m)
    have l2:=ZgB hg
    walk_at"rd"
    refine ZhF I8 ?_
    walk_at"rd"
    refine ZaQ (ZaN (show (ZaM ZaY ra rk (fs.take m)).length+1<=_ by lia)) ?_
    walk_at"rd"
    refine use1 ⟨g,rdm.mono I8.1.ts,hg,fun H9 s9=>?_⟩
    refine ZaQ (ZaN (by rw [ZaC];show (ZaM ZaY ra rk (fs.take m)).length+1+_<=_;lia)) ?_
    walk_at"rd"
    refine ZhE nq (I8.to s9) (s9 _ _ e8) n5 fun Ha Ia ea=>?_
    exact hN2 _ _ ⟨_,rfl,Zkl en Ia,ea⟩
   ·rintro σ Hw ⟨z8,rfl,I8,e8⟩
    rw [<-hxl,take_length] at I8
    exact hN _ _ ⟨_,_,_,_,rfl⟩ I8 e8
  ·rintro σ Hz ⟨z8,z9,z10,z11,rfl,I6,_⟩
   rw [<-hzl,take_length] at I6
   exact hN0 _ _ ⟨_,_,_,_,_,_,_,_,_,_,rfl⟩ I6
 ·rintro σ Hx ⟨x2,x3,x4,x5,x6,x7,x8,x9,x10,x11,rfl,I⟩
  rw [<-hvl,take_length] at I
  obtain ⟨c1,c2⟩:=Zgx ok
  have c3:=ZfW c2
  walk_at"rd"
  refine ⟨rfl,?_⟩
  walk_at"rd"
  refine ZeD (zs:=(sts.map Za2).flatten) (SqL.of I.2) (by decide) (by lia) ?_
  rw [show Str.join (Str.ofString "\n") (sts.map Za2).flatten=ZfO sts from (Zc5 sts).symm]
  exact k _ I.1
noncomputable def AlM (H:Hp):Nat->V->V->Prop
 | 0,_,_=>False
 | n+1,x,y=>(x=y/\((∃ i,x=.int i)\/∃ z,x=.str z))\/∃ a b xs ys,x=.ref a/\y=.ref b/\((H a=some (.lst xs)/\H b=some (.lst ys))\/(H a=some (.tup xs)/\H b=some (.tup ys)))/\xs.length=ys.length/\xs.length<=1000000/\∀ (i:Nat) u v,xs[i]?=some u->ys[i]?=some v->AlM H n u v
theorem AlM.mono {H H' : Hp} (s : Same H H') : ∀ {n : Nat} {x y : V}, AlM H n x y -> AlM H' n x y
  | 0, _, _, h => h
  | n + 1, x, y, h => by
    rcases h with h | ⟨a, b, xs, ys, e1, e2, h, el, hl, hd⟩
    · exact .inl h
    · refine .inr ⟨a, b, xs, ys, e1, e2, ?_, el, hl, fun i u v h1 h2 => (hd i u v h1 h2).mono s⟩
      rcases h with ⟨h1, h2⟩ | ⟨h1, h2⟩
      · exact .inl ⟨s _ _ h1, s _ _ h2⟩
      · exact .inr ⟨s _ _ h1, s _ _ h2⟩
noncomputable def spAl (n:Nat):Sp:=sp2 fun x y H Q=>AlM H n x y/\∀ H',Same H H'->Q (.bl true) H'
theorem sc__law_alike:FnScope ["found","due"] ["found","due"] (Zam Zcf):=⟨rfl,rfl,rfl,by decide +kernel,rfl,by decide +kernel,by decide +kernel⟩
theorem al_0 (T__law_alike:TopFn K mg "_law_alike" Zcf ["found","due"]):Callee P w K mg base "_law_alike" 1 ["found","due"] (spAl 0) :=
 T__law_alike.ok2 sc__law_alike fun f cdv A outer s H v1 v2 Q E hr h=>h.1.elim
theorem Zmn:∀ {bs:List Bool},(∀ b∈bs,b=true)->bs.all _root_.id=true:=fun h=>all_eq_true.mpr fun b hb=>h b hb
theorem Zdw {n lev:Nat} (B:Blt mg) (T__law_alike:TopFn K mg "_law_alike" Zcf ["found","due"]) (Zd6:Callee P w K mg base "_law_alike" lev ["found","due"] (spAl n)):Callee P w K mg base "_law_alike" (lev+1) ["found","due"] (spAl (n+1)):=by
 refine T__law_alike.ok2 sc__law_alike fun f cdv A outer s H v1 v2 Q E hr h=>?_
 have nd:=sc__law_alike.nd
 obtain ⟨h,k⟩:=h
 refine' Zbl [some v1,some v2] rfl ?hb ?hg
 case' hb=>refine' Zae ?bab ?bac
 case' bab=>refine' Za1 ?bad ?bae ?baf
 case' bad=>refine' Zf4 ?bag
 case' bag=>refine' Zaw ?bah ?bai ?baj ?bak ?bal
 case bah=>exact Zhn
 case bai=>exact (by rfl)
 case baj=>exact B.b_isinstance
 case bak=>exact ZaK
 case' bal=>refine' Zac ?bam ?ban
 case bam=>exact (pv 1)
 case' ban=>refine' ZbR ?bao ?bap
 case' bao=>refine' Zbb ?baq
 case baq=>exact (Zac (Zb0 (v:=.ty "list") (by rfl) B.b_list ZgQ rfl) (Zac (Zb0 (v:=.ty "tuple") (by rfl) B.b_tuple ZbS rfl) Zab))
 case bap=>exact Zab
 case' bae=>refine' Zae ?bar ?bas
 case' bar=>refine' Za1 ?bat ?bau ?bav
 case' bat=>refine' PW.pt ?baw
 case' baw=>refine' ZeZ ?bax ?bay
 case' bax=>refine' ZjY ?baz
 case' baz=>refine' Zf4 ?bba
 case' bba=>refine' Zaw ?bbb ?bbc ?bbd ?bbe ?bbf
 case bbb=>exact Zhn
 case bbc=>exact (by rfl)
 case bbd=>exact B.b_isinstance
 case bbe=>exact ZaK
 case' bbf=>refine' Zac ?bbg ?bbh
 case bbg=>exact (pv 0)
 case' bbh=>refine' ZbR ?bbi ?bbj
 case' bbi=>refine' Zbb ?bbk
 case bbk=>exact (Zac (Zb0 (v:=.ty "list") (by rfl) B.b_list ZgQ rfl) (Zac (Zb0 (v:=.ty "tuple") (by rfl) B.b_tuple ZbS rfl) Zab))
 case bbj=>exact Zab
 case' bay=>refine' Zeg ?bbl
 case' bbl=>refine' Zal ?bbm ?bbn ?bbo ?bbp
 case bbm=>exact Ze0
 case' bbn=>refine' Zaw ?bbq ?bbr ?bbs ?bbt ?bbu
 case bbq=>exact Zcw
 case bbr=>exact (by rfl)
 case bbs=>exact B.b_isinstance
 case bbt=>exact ZaK
 case bbu=>exact (Zac (pv 0) (Zac (Zb0 (v:=.ty "list") (by rfl) B.b_list ZgQ rfl) Zab))
 case' bbo=>refine' Zaw ?bbv ?bbw ?bbx ?bby ?bbz
 case bbv=>exact Zcw
 case bbw=>exact (by rfl)
 case bbx=>exact B.b_isinstance
 case bby=>exact ZaK
 case bbz=>exact (Zac (pv 1) (Zac (Zb0 (v:=.ty "list") (by rfl) B.b_list ZgQ rfl) Zab))
 case bbp=>exact (Zas _)
 case bau=>exact (Zag (ZaD Zgr))
 case bav=>exact Zaz
 case' bas=>refine' Zae ?bca ?bcb
 case' bca=>refine' Za1 ?bcc ?bcd ?bce
 case' bcc=>refine' Zal ?bcf ?bcg ?bch ?bci
 case bcf=>exact Ze0
 case bcg=>exact (Zaw (Zcu (K:=K) rfl) (by rfl) B.b_len ZbA (Zac (pv 0) Zab))
 case bch=>exact (Zaw (Zcu (K:=K) rfl) (by rfl) B.b_len ZbA (Zac (pv 1) Zab))
 case bci=>exact (Zas _)
 case bcd=>exact (Zag (ZaD Zgr))
 case bce=>exact Zaz
 case' bcb=>refine' Zag ?bcj
 case' bcj=>refine' ZaD ?bck
 case' bck=>refine' Zaw ?bcl ?bcm ?bcn ?bco ?bcp
 case bcl=>exact (k_all (K:=K) rfl rfl)
 case bcm=>exact (by rfl)
 case bcn=>exact B.b_all
 case bco=>exact ZmX
 case' bcp=>refine' ZcR ?bcq ?bcr
 case' bcq=>refine' ZdH (LN:=["k"]) (FN:=["found","due"]) (fr:=[0,1]) ?bcs ?bct ?bcu ?bcv ?bcw ?bcx
 case bcs=>exact rfl
 case bct=>exact (ZdO (by rfl))
 case bcu=>exact (ZbL rfl B.b_range (Zay (Zaw (Zcu (K:=K) rfl) (by rfl) B.b_len ZbA (Zac (pv 1) Zab)) Zab))
 case' bcv=>intro cl C fp pins s H
 case bcv=>exact (ZaE (i:=0) (show ((["k"]:List Str)++(["found","due"]:List Str)).Nodup by decide +kernel) rfl (Or.inl rfl))
 case' bcw=>intro cl C fp pins s H
 case bcw=>exact ZbY
 case' bcx=>intro cl C fp pins s H
 case' bcx=>refine' Za7 ?bcy ?bcz ?bda ?bdb
 case bcy=>exact Zd6
 case bcz=>exact (hr.mono (by first|decide|lia))
 case bda=>exact (by rfl)
 case bdb=>exact (Zap (Zao (k_ix (K:=K) rfl) (pv 1) (pv 0) (fun _ _=>rfl)) (Zap (Zao (k_ix (K:=K) rfl) (pv 2) (pv 0) (fun _ _=>rfl)) Zab))
 case bcr=>exact Zab
 case baf=>exact Zaz
 case' bac=>refine' Zae ?bdc ?bdd
 case' bdc=>refine' Za1 ?bde ?bdf ?bdg
 case' bde=>refine' PW.pt ?bdh
 case' bdh=>refine' ZeZ ?bdi ?bdj
 case' bdi=>refine' Zal ?bdk ?bdl ?bdm ?bdn
 case bdk=>exact Ze0
 case' bdl=>refine' Zaw ?bdo ?bdp ?bdq ?bdr ?bds
 case bdo=>exact Zcw
 case bdp=>exact (by rfl)
 case bdq=>exact B.b_isinstance
 case bdr=>exact ZaK
 case bds=>exact (Zac (pv 0) (Zac (Zb0 (v:=.ty "bool") (by rfl) B.b_bool Zk4 rfl) Zab))
 case' bdm=>refine' Zaw ?bdt ?bdu ?bdv ?bdw ?bdx
 case bdt=>exact Zcw
 case bdu=>exact (by rfl)
 case bdv=>exact B.b_isinstance
 case bdw=>exact ZaK
 case bdx=>exact (Zac (pv 1) (Zac (Zb0 (v:=.ty "bool") (by rfl) B.b_bool Zk4 rfl) Zab))
 case bdn=>exact (Zas _)
 case' bdj=>refine' Zeg ?bdy
 case' bdy=>refine' Zal ?bdz ?bea ?beb ?bec
 case bdz=>exact Ze0
 case bea=>exact (Zaw Zcw (by rfl) B.b_isinstance ZaK (Zac (pv 0) (Zac (Zb0 (v:=.ty "int") (by rfl) B.b_int Zev rfl) Zab)))
 case beb=>exact (Zaw Zcw (by rfl) B.b_isinstance ZaK (Zac (pv 1) (Zac (Zb0 (v:=.ty "int") (by rfl) B.b_int Zev rfl) Zab)))
 case bec=>exact (Zas _)
 case bdf=>exact (Zag (ZaD Zgr))
 case bdg=>exact Zaz
 case' bdd=>refine' Zag ?bed
 case' bed=>refine' ZaD ?bee
 case' bee=>refine' pe_and ?bef ?beg
 case' bef=>refine' Zfr ?beh ?bei ?bej ?bek
 case beh=>exact Zbc
 case bei=>exact (Zaw Zcw (by rfl) B.b_isinstance ZaK (Zac (pv 0) (Zac (Zb0 (v:=.ty "str") (by rfl) B.b_str ZdB rfl) Zab)))
 case bej=>exact (Zaw Zcw (by rfl) B.b_isinstance ZaK (Zac (pv 1) (Zac (Zb0 (v:=.ty "str") (by rfl) B.b_str ZdB rfl) Zab)))
 case bek=>exact (Zas _)
 case beg=>exact (ZmH (Zfr Zbc (pv 0) (pv 1) (Zas _)))
 walk_at"rd"
 walk_at"mk";intro pt hpt
 have st:=Same.new (o:=.tup [V.ty "list",V.ty "tuple"]) hpt
 have et:upd H pt (.tup [V.ty "list",V.ty "tuple"]) pt=some (.tup [V.ty "list",V.ty "tuple"]):=Zad
 generalize upd H pt (.tup [V.ty "list",V.ty "tuple"])=H1 at st et
 walk_at"rd"
 rcases h with ⟨rfl,⟨i,rfl⟩|⟨z,rfl⟩⟩|⟨a,b,xs,ys,rfl,rfl,h,el,hl,hd⟩
 ·refine ZhG (t:="int") rfl et (Zgq (iteF ?_))
  walk_at"rd"
  refine Zcg rfl (by simp) ?_
  walk_at"rd"
  refine Zcg rfl (by simp) ?_
  walk_at"rd"
  refine ZhT rfl ?_
  walk_at"rd"
  refine Zcg rfl (by simp) ?_
  walk_at"rd"
  refine Zcg rfl (by simp) ?_
  walk_at"rd"
  refine ZhT rfl ?_
  walk_at"rd"
  refine Zcg rfl (by simp) ?_
  walk_at"rd"
  refine Zcg rfl (by simp) ?_
  walk_at"rd"
  refine Zc7 rfl ?_
  walk_at"rd"
  rw [decide_eq_true rfl]
  exact k _ st
 ·refine ZhG (t:="str") rfl et (Zgq (iteF ?_))
  walk_at"rd"
  refine Zcg rfl (by simp) ?_
  walk_at"rd"
  refine Zcg rfl (by simp) ?_
  walk_at"rd"
  refine ZhT rfl ?_
  walk_at"rd"
  refine Zcg rfl (by simp) ?_
  walk_at"rd"
  refine Zcg rfl (by simp) ?_
  walk_at"rd"
  refine ZhT rfl ?_
  walk_at"rd"
  refine Zcg rfl (by simp) ?_
  walk_at"rd"
  refine Zcg rfl (by simp) ?_
  walk_at"rd"
  refine Zc7 rfl ?_
  walk_at"rd"
  rw [decide_eq_true rfl]
  exact k _ st
 ·obtain ⟨t,t1,t2,tt,ix,iy,lx,ly⟩:∃ t,(∀ H',Same H1 H'->tyN H' (.ref a)=some t)/\(∀ H',Same H1 H'->tyN H' (.ref b)=some t)/\(t == "list" || t == "tuple")=true /\
    (∀ (Q:VK) H' i v,Same H1 H'->xs[i]?=some v->Q v H'->rIxA K (.ref a) (.int (i:Nat)) H' Q)/\(∀ (Q:VK) H' i v,Same H1 H'->ys[i]?=some v->Q v H'->rIxA K (.ref b) (.int (i:Nat)) H' Q) /\
    (∀ (Q:VK) H',Same H1 H'->Q (.int xs.length) H'->rLen K [.ref a] H' Q)/\(∀ (Q:VK) H',Same H1 H'->Q (.int xs.length) H'->rLen K [.ref b] H' Q):=by
   rcases h with ⟨h1,h2⟩|⟨h1,h2⟩
   ·have g1:=st _ _ h1
    have g2:=st _ _ h2
    exact ⟨"list",fun H' s'=>Zjg (s' _ _ g1),fun H' s'=>Zjg (s' _ _ g2),rfl,fun Q H' i v s' e q=>Zaj (s' _ _ g1) (Zan rfl e) q,fun Q H' i v s' e q=>Zaj (s' _ _ g2) (Zan rfl e) q,fun Q H' s' q=>Zbf (SqL.of (s' _ _ g1)) q,fun Q H' s' q=>Zbf (SqL.of (s' _ _ g2)) (by rw [<-el];exact q)⟩
   ·have g1:=st _ _ h1
    have g2:=st _ _ h2
    exact ⟨"tuple",fun H' s'=>ZhB (s' _ _ g1),fun H' s'=>ZhB (s' _ _ g2),rfl,fun Q H' i v s' e q=>Za6 (s' _ _ g1) (Zan rfl e) q,fun Q H' i v s' e q=>Za6 (s' _ _ g2) (Zan rfl e) q,fun Q H' s' q=>Zij (SqT.of (s' _ _ g1)) q,fun Q H' s' q=>Zij (SqT.of (s' _ _ g2)) (by rw [<-el];exact q)⟩
  refine Zil (t2 _ (Same.refl _)) et tt (Zgq (iteT ?_))
  walk_at"rd"
  walk_at"mk";intro pu hpu
  have su:=Same.new (o:=.tup [V.ty "list",V.ty "tuple"]) hpu
  have eu:upd H1 pu (.tup [V.ty "list",V.ty "tuple"]) pu=some (.tup [V.ty "list",V.ty "tuple"]):=Zad
  generalize upd H1 pu (.tup [V.ty "list",V.ty "tuple"])=H2 at su eu
  walk_at"rd"
  refine Zil (t1 _ su) eu tt (Zgq (iteNT ?_))
  walk_at"rd"
  refine Zcg (t1 _ su) (by simp) ?_
  walk_at"rd"
  refine Zcg (t2 _ su) (by simp) ?_
  walk_at"rd"
  refine ZhT rfl ?_
  walk_at"rd"
  refine lx _ _ su ?_
  walk_at"rd"
  refine ly _ _ su ?_
  walk_at"rd"
  refine ZhT rfl ?_
  walk_at"rd"
  refine ly _ _ su ?_
  walk_at"rd"
  refine ZdY (by lia) (by lia) ?_
  refine Zfb (n:=(xs.length:Int).toNat) (by rw [PySem.sizeLine_eq];lia) (fun j zs σ Hy=>An3 (∃ x1,σ=[x1,some (.ref a),some (.ref b)]) (Same H2 Hy) (zs=(List.replicate j true).map V.bl)) ⟨⟨none,rfl⟩,Same.refl _,rfl⟩ ?_ ?_
  ·rintro j zs σ Hy hj hle hlt ⟨⟨x1,rfl⟩,sy,rfl⟩
   have hj':j < xs.length:=by lia
   have e1:=getElem?_eq_getElem hj'
   have e2:=getElem?_eq_getElem (el▸hj':j < ys.length)
   rw [show (0:Int)+(j:Int)=(j:Int) by lia]
   walk_at"rd"
   refine ix _ _ j _ (su.trans sy) e1 ?_
   walk_at"rd"
   refine iy _ _ j _ (su.trans sy) e2 ?_
   walk_at"rd"
   refine use2 ⟨(hd j _ _ e1 e2).mono ((st.trans su).trans sy),fun H4 s4=>?_⟩
   refine ⟨hlt,by simpa using hle,⟨_,rfl⟩,sy.trans s4,?_⟩
   rw [replicate_succ',map_append]
   rfl
  ·rintro zs σ Hy _ ⟨⟨x1,rfl⟩,sy,rfl⟩ pz hpz
   walk_at"rd"
   refine ⟨pz,_,rfl,SqL.of Zad,?_⟩
   rw [Zmn fun b hb=>(mem_replicate.mp hb).2]
   exact k _ (((st.trans su).trans sy).trans (Same.new hpz))
noncomputable def AlD:Nat->D->Prop
 | 0,_=>False
 | n+1,d=>(∃ i,d=.int i)\/(∃ z,d=.str z)\/∃ ds,d=.tup ds/\ds.length<=1000000/\∀ e∈ds,AlD n e
theorem al_D {H : Hp} : ∀ {n : Nat} {d : D} {x y : V}, AlD n d -> Rep H d x -> Rep H d y -> AlM H n x y
  | 0, _, _, _, h, _, _ => h.elim
  | n + 1, d, x, y, h, r1, r2 => by
    rcases h with ⟨i, rfl⟩ | ⟨z, rfl⟩ | ⟨ds, rfl, hl, hd⟩
    · obtain rfl := Zbq r1
      obtain rfl := Zbq r2
      exact .inl ⟨rfl, .inl ⟨i, rfl⟩⟩
    · rw [Rep] at r1 r2
      subst r1; subst r2
      exact .inl ⟨rfl, .inr ⟨z, rfl⟩⟩
    · obtain ⟨a, xs, rfl, ha, rx⟩ := ZaW r1
      obtain ⟨b, ys, rfl, hb, ry⟩ := ZaW r2
      refine .inr ⟨a, b, xs, ys, rfl, rfl, .inr ⟨ha, hb⟩, rx.length.symm.trans ry.length, by rw [<- rx.length]; exact hl, fun i u v eu ev => ?_⟩
      obtain ⟨d, e1, q1⟩ := rx.get' eu
      obtain ⟨d', e2, q2⟩ := ry.get' ev
      rw [e1] at e2
      cases e2
      exact al_D (hd d (mem_of_getElem? e1)) q1 q2
inductive Pr_lread (x:V) (H:Hp) (Q:VK):Prop
 | mk (z) (_:x=.str z) (_:z.length<=900000) (_:Zbd z) (_:∀ sts p q e ys H',ZdC z=some sts->H' q=some (.lst ys)->SAll H' sts ys->H' p=some (.tup [.ref q,.ref e])->H' e=some (.lst [])->Same H H'->Q (.ref p) H') (_:∀ p q H',ZdC z=none->H' p=some (.tup [.non,.ref q])->H' q=some (.lst [.bl true,.bl true,.bl false])->Same H H'->Q (.ref p) H'):Pr_lread x H Q
noncomputable def Zlk:Sp:=sp1 (Pr_lread)
theorem sc__law_read:FnScope ["text","found","told","e"] ["text"] (Zam Zdi):=⟨rfl,rfl,rfl,by decide +kernel,rfl,by decide +kernel,by decide +kernel⟩
theorem Zh2 {Zah ZaA Zav ZaU:Addr} (B:Blt mg) (HX:ExH K mg Zah ZaA Zav ZaU) (T__law_read:TopFn K mg "_law_read" Zdi ["text"]) (Cread_lane:CalleeX P w K mg base Zah "read_lane" 9 ["text"] (ZeM Zah)):Callee P w K mg base "_law_read" 10 ["text"] Zlk:=by
 refine T__law_read.ok1 sc__law_read fun f cdv A outer s H v1 Q E hr h=>?_
 have nd:=sc__law_read.nd
 obtain ⟨z,rfl,hz,az,k1,k2⟩:=h
 refine' Zbl [some (.str z),none,none,none] rfl ?hb ?hg
 case' hb=>refine' Zae ?bab ?bac
 case bab=>exact (Zc2 (i:=1) nd rfl (Or.inl rfl) ZbZ)
 case' bac=>refine' Zae ?bad ?bae
 case bad=>exact (Zcm (i:=2) nd rfl (Or.inl rfl) (Zba Zab))
 case' bae=>refine' Zae ?baf ?bag
 case' baf=>refine' ZnG (i:=1) (j:=3) ?bah ?bai ?baj ?bak ?bal ?bam ?ban ?bao ?bap ?baq ?bar ?bas ?bat ?bau ?bav ?baw ?bax
 case bah=>exact Cread_lane
 case bai=>exact (hr.mono (by first|decide|lia))
 case baj=>exact rfl
 case bak=>exact rfl
 case bal=>exact nd
 case bam=>exact rfl
 case ban=>exact (Or.inl rfl)
 case bao=>exact (Or.inl rfl)
 case bap=>exact rfl
 case baq=>exact rfl
 case bar=>exact rfl
 case bas=>exact (by rfl)
 case bat=>exact (Zac (pv 0) Zab)
 case bau=>exact (by rfl)
 case bav=>exact HX.m_LaneError
 case baw=>exact HX.x_LaneError
 case bax=>exact (fun a oe hc hd=>(Zag (Zcm (i:=2) nd rfl (Or.inl rfl) (Zba (Zay (Zaw (Zeu rfl hc HX.k) (by rfl) B.b_isinstance ZaK (Zac (pv 3) (Zac (Zb0 (v:=.ty "ValueError") (by rfl) B.b_ValueError ZgR rfl) Zab))) (Zay (Zaw (Zeu rfl hc HX.k) (by rfl) B.b_isinstance ZaK (Zac (pv 3) (Zac (Zfq (v:=.ref Zah) (by rfl) HX.m_NoText rfl) Zab))) (ZlS (pe_or (Zaw (Zeu rfl hc HX.k) (by rfl) B.b_isinstance ZaK (Zac (pv 3) (Zac (Zfq (v:=.ref Zav) (by rfl) HX.m_NotFormed rfl) Zab))) (ZmH (Zaw (Zeu rfl hc HX.k) (by rfl) B.b_isinstance ZaK (Zac (pv 3) (Zac (Zfq (v:=.ref ZaU) (by rfl) HX.m_Faulty rfl) Zab))))) Zab)))))))
 case bag=>exact (Zag (ZaD (Zbb (Zac (pv 1) (Zac (pv 2) Zab)))))
 walk_at"rd"
 walk_at"mk";intro q hq
 have s0:=Same.new (o:=.lst []) hq
 have e0:upd H q (.lst []) q=some (.lst []):=Zad
 generalize upd H q (.lst [])=H0 at s0 e0
 walk_at"rd"
 refine ZeY ⟨z,rfl,hz,az,fun sts hw pq ys H1 eq1 sa s1=>?_,fun hw H1 s1 a ha=>?_⟩
 ·walk_at"rd"
  walk_at"mk";intro p hp
  have s2:=Same.new (o:=.tup [V.ref pq,V.ref q]) hp
  exact k1 sts p pq q ys _ hw (s2 _ _ eq1) (sa.mono s2) Zad (s2 _ _ (s1 _ _ e0)) ((s0.trans s1).trans s2)
 ·walk_at"rd"
  refine Znq HX.kV ?_
  walk_at"rd"
  refine ZjJ HX.k.kc (fun z=>by cases z) ?_
  walk_at"rd"
  refine ZjJ HX.kN (fun _=>HX.nN) ?_
  walk_at"rd"
  refine ZjJ HX.kF (fun _=>HX.nF) ?_
  walk_at"rd"
  walk_at"mk";intro p2 hp2
  have s2:=Same.new (o:=.lst [V.bl true,V.bl true,V.bl false]) hp2
  have e2:upd H1 p2 (.lst [V.bl true,V.bl true,V.bl false]) p2=some (.lst [V.bl true,V.bl true,V.bl false]):=Zad
  generalize upd H1 p2 (.lst [V.bl true,V.bl true,V.bl false])=H2 at s2 e2
  walk_at"rd"
  walk_at"mk";intro p hp
  have s3:=Same.new (o:=.tup [V.non,V.ref p2]) hp
  exact k2 p p2 _ hw Zad (s3 _ _ e2) (((s0.trans s1).trans s2).trans s3)
inductive Pr_any_sign (x:V) (H:Hp) (Q:VK):Prop
 | mk (b l) (_:x=.ref b) (_:BagAt H b l) (_:∀ c H',c < 128->BagAt H' b l->BSame b H H'->Q (.str ⟨#[c]⟩) H'):Pr_any_sign x H Q
noncomputable def Zd0:Sp:=sp1 (Pr_any_sign)
noncomputable def Zf0:Str:="0123456789- \n;:abcdefghijklmnopqrstuvwxyzABCDEFGHIJKLMNOPQRSTUVWXYZ"
noncomputable def ZfZ:Str:="!\"#$&'()*+,./<=>?\x40[\\]^_`{|}~"
theorem Zfj:(Zf0++ZfZ).length=95:=by decide +kernel
theorem Zjx:∀ c∈cs (Zf0++ZfZ),c < 128:=by decide +kernel
theorem sc__law_any_sign:FnScope ["bag","some"] ["bag"] (Zam ZbW):=⟨rfl,rfl,rfl,by decide +kernel,rfl,by decide +kernel,by decide +kernel⟩
theorem ZfH (B:Blt mg) (T__law_any_sign:TopFn K mg "_law_any_sign" ZbW ["bag"]) (Zax:Callee P w K mg base "_law_draw" 1 ["bag","many"] ZeB):Callee P w K mg base "_law_any_sign" 2 ["bag"] Zd0:=by
 refine T__law_any_sign.ok1 sc__law_any_sign fun f cdv A outer s H v1 Q E hr h=>?_
 have nd:=sc__law_any_sign.nd
 obtain ⟨b,l,rfl,Bg,k⟩:=h
 refine' Zbl [some (.ref b),none] rfl ?hb ?hg
 case' hb=>refine' Zae ?bab ?bac
 case bab=>exact (Zc2 (i:=1) nd rfl (Or.inl rfl) Zak)
 case' bac=>refine' Zae ?bad ?bae
 case bad=>exact (Zbr (i:=1) nd rfl (Or.inl rfl) (Zar ZaR (pv 1) Zak))
 case' bae=>refine' Zae ?baf ?bag
 case' baf=>refine' Za1 ?bah ?bai ?baj
 case bah=>exact (Zal Zbc (Za7 Zax (hr.mono (by first|decide|lia)) (by rfl) (Zac (pv 0) (Zaf Zaa Zab))) Zaa (Zas _))
 case' bai=>refine' Zag ?bak
 case' bak=>refine' ZaD ?bal
 case bal=>exact (Zao Zhd (pv 1) (Za7 Zax (hr.mono (by first|decide|lia)) (by rfl) (Zac (pv 0) (Zaf Zaa Zab))) (fun _ _=>rfl))
 case baj=>exact Zaz
 case' bag=>refine' Zag ?bam
 case' bam=>refine' ZaD ?ban
 case ban=>exact (Zao Zhd (pv 1) (Za7 Zax (hr.mono (by first|decide|lia)) (by rfl) (Zac (pv 0) (Zaf Zaa Zab))) (fun _ _=>rfl))
 walk_at"rd"
 refine ZaQ (i:=Zf0) (j:=ZfZ) (by rw [<-ZaC,Zfj,PySem.sizeLine_eq];decide) ?_
 walk_at"rd"
 have pick:∀ (r:Int),0<=r->r < 95->∃ c,atI (Zf0++ZfZ).cps.toList r=some c/\c < 128:=by
  intro r h0 h1
  obtain ⟨n,rfl⟩:=Int.eq_ofNat_of_zero_le h0
  have hn:n < (cs (Zf0++ZfZ)).length:=by rw [Za0,Zfj];lia
  exact ⟨_,Zan (n:=n) rfl (getElem?_eq_getElem hn),Zjx _ (getElem_mem hn)⟩
 have hsz:(Zf0++ZfZ).length<=PySem.sizeLine:=by rw [Zfj,PySem.sizeLine_eq];decide
 refine use2 ⟨b,l,2,rfl,rfl,⟨by decide,by decide⟩,Bg,fun r1 H1 g0 g1 B1 b1=>?_⟩
 walk_at"rd"
 refine ZaS (fun _=>?_) (fun _=>?_)
 ·walk_at"rd"
  refine use2 ⟨b,l,15,rfl,rfl,⟨by decide,by decide⟩,B1,fun r2 H2 h0 h1 B2 b2=>?_⟩
  obtain ⟨c,e,hc⟩:=pick r2 h0 (by lia)
  exact ⟨_,r2,c,rfl,rfl,hsz,e,k c H2 hc B2 (b1.trans b2)⟩
 ·walk_at"rd"
  refine use2 ⟨b,l,95,rfl,rfl,⟨by decide,by decide⟩,B1,fun r2 H2 h0 h1 B2 b2=>?_⟩
  obtain ⟨c,e,hc⟩:=pick r2 h0 (by lia)
  exact ⟨_,r2,c,rfl,rfl,hsz,e,k c H2 hc B2 (b1.trans b2)⟩
theorem ZfI {c:Nat} (h:c < 128):Zbd ⟨#[c]⟩:=asc_mem.mpr fun d hd=>by
 rw [show d=c from mem_singleton.mp hd];exact h
theorem ZcC {c:Nat}:(⟨#[c]⟩:Str).length=1:=rfl
inductive Pr_run (x:V) (H:Hp) (Q:VK):Prop
 | mk (b l) (_:x=.ref b) (_:BagAt H b l) (_:∀ z H',Zbd z->z.length<=12->BagAt H' b l->BSame b H H'->Q (.str z) H'):Pr_run x H Q
noncomputable def Zjr:Sp:=sp1 (Pr_run)
theorem sc__law_run:FnScope ["bag","way","many"] ["bag"] (Zam ZdP):=⟨rfl,rfl,rfl,by decide +kernel,rfl,by decide +kernel,by decide +kernel⟩
theorem Zi7 (B : Blt mg) (T__law_run : TopFn K mg "_law_run" ZdP ["bag"]) (Zax : Callee P w K mg base "_law_draw" 1 ["bag", "many"] ZeB) (Zbe : Callee P w K mg base "_law_any_sign" 2 ["bag"] Zd0) : CalleeS P w K mg base "_law_run" 3 ["bag"] Zjr := by
  refine T__law_run.ok1S sc__law_run fun f cdv A outer s H v1 Q E hr h => ?_
  have nd := sc__law_run.nd
  obtain ⟨b, l, rfl, Bg, k⟩ := h
  refine' Zl9 [some (.ref b), none, none] rfl ?hb ?hg
  case' hb => refine' ZjZ ?bab ?bac
  case bab => exact (ZnI (i := 1) nd rfl (Or.inl rfl) (pe_fnA Zax (hr.mono (by first | decide | lia)) (by rfl) (Zj2 (pv 0) ZnP)))
  case' bac => refine' Zae ?bad ?bae
  case bad => exact (Zbk (i := 2) nd rfl (Or.inl rfl) (Za7 Zax (hr.mono (by first | decide | lia)) (by rfl) (Zac (pv 0) (Zaf Zaa Zab))))
  case' bae => refine' Zae ?baf ?bag
  case baf => exact (Za1 (Zal Zbc (pv 1) Zaa (Zas _)) (Zag (ZaD (Zar Zdo Zak (pv 2)))) Zaz)
  case' bag => refine' Zae ?bah ?bai
  case' bah => refine' Za1 ?baj ?bak ?bal
  case baj => exact (Zal Zbc (pv 1) Zaa (Zas _))
  case bak => exact (Zag (ZaD (Zar Zdo (Za7 Zbe (hr.mono (by first | decide | lia)) (by rfl) (Zac (pv 0) Zab)) (pv 2))))
  case bal => exact Zaz
  case' bai => refine' Zag ?bam
  case' bam => refine' ZaD ?ban
  case' ban => refine' k_bm (K := K) ?bao ?bap ?baq ?bar ?bas ?bat ?bau
  case bao => exact rfl
  case bap => exact PySem.F.plainAttrs_str
  case baq => exact PySem.F.slot_str_join
  case bar => exact PySem.F.type_str_join
  case bas => exact (ZeU (K := K) rfl)
  case bat => exact Zak
  case' bau => refine' ZcR ?bav ?baw
  case' bav => refine' ZdH (LN := ["k"]) (FN := ["bag"]) (fr := [0]) ?bax ?bay ?baz ?bba ?bbb ?bbc
  case bax => exact rfl
  case bay => exact (ZdO (by rfl))
  case baz => exact (ZbL rfl B.b_range (Zac (pv 2) Zab))
  case' bba => intro cl C fp pins s H
  case bba => exact (ZaE (i := 0) (show ((["k"] : List Str) ++ (["bag"] : List Str)).Nodup by decide +kernel) rfl (Or.inl rfl))
  case' bbb => intro cl C fp pins s H
  case bbb => exact ZbY
  case' bbc => intro cl C fp pins s H
  case bbc => exact (Za7 Zbe (hr.mono (by first | decide | lia)) (by rfl) (Zac (pv 1) Zab))
  case baw => exact Zab
  walk_at"rd"
  refine use2 ⟨b, l, 3, rfl, rfl, ⟨by decide, by decide⟩, Bg, fun way H1 g0 g1 B1 b1 => ?_⟩
  walk_at"rd"
  refine use2 ⟨b, l, 13, rfl, rfl, ⟨by decide, by decide⟩, B1, fun many H2 h0 h1 B2 b2 => ?_⟩
  have b12 := b1.trans b2
  walk_at"rd"
  refine ZaS (fun _ => ?_) (fun _ => ?_)
  · walk_at"rd"
    refine Zdm (by lia) (by lia) (by decide) fun hl => ?_
    exact k _ _ (Zh5 (ZfI (c := 32) (by decide))) (by rw [show (Str.ofString " ").length = 1 from by decide] at hl; lia) B2 b12
  walk_at"rd"
  refine ZaS (fun _ => ?_) (fun _ => ?_)
  · walk_at"rd"
    refine use1 ⟨b, l, rfl, B2, fun c H3 hc B3 b3 => ?_⟩
    walk_at"rd"
    refine Zdm (by lia) (by lia) (by rw [ZcC]; decide) fun hl => ?_
    exact k _ _ (Zh5 (ZfI hc)) (by rw [ZcC] at hl; lia) B3 (b12.trans b3)
  walk_at"rd"
  refine ⟨rfl, ?_⟩
  walk_at"rd"
  refine ZdY (by lia) (by lia) ?_
  refine Zfb (n := many.toNat) (Ze6 (by lia)) (fun j ys σ Hy => (∃ x1, σ = [x1, some (.ref b)]) /\ ∃ zs : List Str, An5 (ys = zs.map V.str) (zs.length = j) (∀ z ∈ zs, Zbd z /\ z.length = 1) (BagAt Hy b l) (BSame b H2 Hy)) ⟨⟨none, rfl⟩, [], rfl, rfl, by simp, B2, BSame.refl _ _⟩ ?_ ?_
  · rintro j ys σ Hy hj hle hlt ⟨⟨x1, rfl⟩, zs, rfl, hz, hb, By, bY⟩
    walk_at"rd"
    refine use1 ⟨b, l, rfl, By, fun c H6 hc B6 b6 => ?_⟩
    refine ⟨hlt, by simpa using hle, ⟨_, rfl⟩, zs ++ [⟨#[c]⟩], by simp, by simp [hz], fun z hz' => ?_, B6, bY.trans b6⟩
    rcases mem_append.mp hz' with hz' | hz'
    · exact hb z hz'
    · rw [mem_singleton.mp hz']; exact ⟨ZfI hc, ZcC⟩
  rintro ys σ Hy _ ⟨⟨x1, rfl⟩, zs, rfl, hz, hb, By, bY⟩ p6 hp6
  have s6 := Same.new (o := .lst (zs.map V.str)) hp6
  have hsum : (zs.map (·.length)).sum <= zs.length := by
    have : ∀ (l : List Str), (∀ z ∈ l, z.length = 1) -> (l.map (·.length)).sum <= l.length := by
      intro l
      induction l with
      | nil => intro _; exact Nat.le_refl _
      | cons z l ih =>
        intro h
        have h1 := h z mem_cons_self
        have h2 := ih fun x hx => h x (mem_cons_of_mem _ hx)
        simp only [map_cons, sum_cons, length_cons]
        lia
    exact this zs fun z hz' => (hb z hz').2
  walk_at"rd"
  refine ZeD (zs := zs) (SqL.of Zad) (by decide) (by lia) ?_
  refine k _ _ (Zfc (asc_mem.mpr (by decide)) fun z hz' => (hb z hz').1) ?_ (By.mono s6) ((b12.trans bY).to s6)
  have := StrLaws.join_length_le (Str.ofString "") zs
  have h0' : (Str.ofString "").length = 0 := by decide
  rw [h0'] at this
  lia
inductive Pr_bent_text (x y z:V) (H:Hp) (Q:VK):Prop
 | mk (t L pk p0 p1 p2 pr b l) (_:x=.str t) (_:Zbd t) (_:t.length<=L) (_:L<=900000) (_:y=.ref pk) (_:H pk=some (.lst (.int p0::.int p1::.int p2::pr))) (_:pk≠b) (_:z=.ref b) (_:BagAt H b l) (_:∀ t' H',PutIn t t'->t'.length<=L+12->BagAt H' b l->BSame b H H'->Q (.str t') H'):Pr_bent_text x y z H Q
noncomputable def ZeQ:Sp:=sp3 (Pr_bent_text)
theorem sc__law_bent_text:FnScope ["text","pick","bag","at","starts","gone"] ["text","pick","bag"] (Zam ZbQ):=⟨rfl,rfl,rfl,by decide +kernel,rfl,by decide +kernel,by decide +kernel⟩
theorem Ze5 (B:Blt mg) (T__law_bent_text:TopFn K mg "_law_bent_text" ZbQ ["text","pick","bag"]) (Zbe:Callee P w K mg base "_law_any_sign" 2 ["bag"] Zd0) (C_law_run:Callee P w K mg base "_law_run" 3 ["bag"] Zjr):Callee P w K mg base "_law_bent_text" 4 ["text","pick","bag"] ZeQ:=by
 refine T__law_bent_text.ok3 sc__law_bent_text fun f cdv A outer s H v1 v2 v3 Q E hr h=>?_
 have nd:=sc__law_bent_text.nd
 have hu:=hr.units
 obtain ⟨t,L,pk,p0,p1,p2,pr,b,l,rfl,tasc,hL,hL9,rfl,hpk,npk,rfl,Bg,k⟩:=h
 have big:∀ {n:Nat},n<=1000000->n<=PySem.sizeLine:=fun h=>by rw [PySem.sizeLine_eq];lia
 refine' Zbl [some (.str t),some (.ref pk),some (.ref b),none,none,none] rfl ?hb ?hg
 case' hb=>refine' Zae ?bab ?bac
 case' bab=>refine' Zbr (i:=3) ?bad ?bae ?baf ?bag
 case bad=>exact nd
 case bae=>exact rfl
 case baf=>exact (Or.inl rfl)
 case' bag=>refine' Zar ?bah ?bai ?baj
 case bah=>exact Zci
 case bai=>exact (Zao (k_ix (K:=K) rfl) (pv 1) Zaa (fun _ _=>rfl))
 case baj=>exact (Zar ZbE (Zaw (Zcu (K:=K) rfl) (by rfl) B.b_len ZbA (Zac (pv 0) Zab)) Zaa)
 case' bac=>refine' Zae ?bak ?bal
 case' bak=>refine' Za1 ?bam ?ban ?bao
 case bam=>exact (Zal Zbc (Zao (k_ix (K:=K) rfl) (pv 1) Zaa (fun _ _=>rfl)) Zaa (Zas _))
 case' ban=>refine' Zag ?bap
 case' bap=>refine' ZaD ?baq
 case' baq=>refine' Zar ?bar ?bas ?bat
 case bar=>exact ZaR
 case' bas=>refine' Zar ?bau ?bav ?baw
 case bau=>exact ZaR
 case bav=>exact (Zau Zdz (pv 0) ZaG (ZaB (pv 3)))
 case baw=>exact (Za7 Zbe (hr.mono (by first|decide|lia)) (by rfl) (Zac (pv 2) Zab))
 case bat=>exact (Zau Zdz (pv 0) (ZaB (pv 3)) ZaG)
 case bao=>exact Zaz
 case' bal=>refine' Zae ?bax ?bay
 case' bax=>refine' Za1 ?baz ?bba ?bbb
 case baz=>exact (Zal Zbc (Zao (k_ix (K:=K) rfl) (pv 1) Zaa (fun _ _=>rfl)) Zaa (Zas _))
 case' bba=>refine' Zag ?bbc
 case bbc=>exact (ZaD (Zar ZaR (Zau Zdz (pv 0) ZaG (ZaB (pv 3))) (Zau Zdz (pv 0) (ZaB (Zar ZbE (pv 3) Zaa)) ZaG)))
 case bbb=>exact Zaz
 case' bay=>refine' Zae ?bbd ?bbe
 case' bbd=>refine' Za1 ?bbf ?bbg ?bbh
 case bbf=>exact (Zal Zbc (Zao (k_ix (K:=K) rfl) (pv 1) Zaa (fun _ _=>rfl)) Zaa (Zas _))
 case' bbg=>refine' Zag ?bbi
 case' bbi=>refine' ZaD ?bbj
 case' bbj=>refine' Zar ?bbk ?bbl ?bbm
 case bbk=>exact ZaR
 case' bbl=>refine' Zar ?bbn ?bbo ?bbp
 case bbn=>exact ZaR
 case bbo=>exact (Zau Zdz (pv 0) ZaG (ZaB (pv 3)))
 case bbp=>exact (Za7 Zbe (hr.mono (by first|decide|lia)) (by rfl) (Zac (pv 2) Zab))
 case bbm=>exact (Zau Zdz (pv 0) (ZaB (Zar ZbE (pv 3) Zaa)) ZaG)
 case bbh=>exact Zaz
 case' bbe=>refine' Zae ?bbq ?bbr
 case' bbq=>refine' Za1 ?bbs ?bbt ?bbu
 case bbs=>exact (Zal Zbc (Zao (k_ix (K:=K) rfl) (pv 1) Zaa (fun _ _=>rfl)) Zaa (Zas _))
 case' bbt=>refine' Zae ?bbv ?bbw
 case' bbv=>refine' Zbr (i:=4) ?bbx ?bby ?bbz ?bca
 case bbx=>exact nd
 case bby=>exact rfl
 case bbz=>exact (Or.inl rfl)
 case' bca=>refine' Zar ?bcb ?bcc ?bcd
 case bcb=>exact Zcj
 case bcc=>exact (Zba (Zaf Zaa Zab))
 case' bcd=>refine' ZdH (LN:=["k"]) (FN:=["text"]) (fr:=[0]) ?bce ?bcf ?bcg ?bch ?bci ?bcj
 case bce=>exact rfl
 case bcf=>exact (ZdO (by rfl))
 case bcg=>exact (ZbL rfl B.b_range (Zay (Zaw (Zcu (K:=K) rfl) (by rfl) B.b_len ZbA (Zac (pv 0) Zab)) Zab))
 case' bch=>intro cl C fp pins s H
 case bch=>exact (ZaE (i:=0) (show ((["k"]:List Str)++(["text"]:List Str)).Nodup by decide +kernel) rfl (Or.inl rfl))
 case' bci=>intro cl C fp pins s H
 case bci=>exact (ZhI (Zal Zbc (Zao Zhd (pv 1) (pv 0) (fun _ _=>rfl)) Zak (Zas _)))
 case' bcj=>intro cl C fp pins s H
 case bcj=>exact (Zar ZbE (pv 0) Zaa)
 case' bbw=>refine' Zag ?bck
 case' bck=>refine' Zfo (i:=3) ?bcl ?bcm ?bcn ?bco
 case bcl=>exact nd
 case bcm=>exact rfl
 case bcn=>exact (Or.inl rfl)
 case' bco=>refine' Zao ?bcp ?bcq ?bcr ?bcs
 case bcp=>exact (k_ix (K:=K) rfl)
 case bcq=>exact (pv 4)
 case' bcr=>refine' Zar ?bct ?bcu ?bcv
 case bct=>exact Zci
 case bcu=>exact (Zao (k_ix (K:=K) rfl) (pv 1) Zaa (fun _ _=>rfl))
 case bcv=>exact (Zaw (Zcu (K:=K) rfl) (by rfl) B.b_len ZbA (Zac (pv 4) Zab))
 case bcs=>exact (fun _ _=>rfl)
 case bbu=>exact Zaz
 case' bbr=>refine' Zae ?bcw ?bcx
 case' bcw=>refine' Zfo (i:=5) ?bcy ?bcz ?bda ?bdb
 case bcy=>exact nd
 case bcz=>exact rfl
 case bda=>exact (Or.inl rfl)
 case' bdb=>refine' Zao ?bdc ?bdd ?bde ?bdf
 case bdc=>exact (k_ix (K:=K) rfl)
 case' bdd=>refine' Zba ?bdg
 case' bdg=>refine' Zaf ?bdh ?bdi
 case bdh=>exact Zaa
 case bdi=>exact (Zaf Zaa (Zbi (Zar Zci (Zar Zgt (Zao (k_ix (K:=K) rfl) (pv 1) Zaa (fun _ _=>rfl)) Zaa) Zaa) Zab))
 case bde=>exact (Zar Zci (Zao (k_ix (K:=K) rfl) (pv 1) Zaa (fun _ _=>rfl)) Zaa)
 case bdf=>exact (fun _ _=>rfl)
 case' bcx=>refine' Zag ?bdj
 case' bdj=>refine' ZaD ?bdk
 case' bdk=>refine' Zar ?bdl ?bdm ?bdn
 case bdl=>exact ZaR
 case' bdm=>refine' Zar ?bdo ?bdp ?bdq
 case bdo=>exact ZaR
 case bdp=>exact (Zau Zdz (pv 0) ZaG (ZaB (pv 3)))
 case bdq=>exact (Za7 C_law_run (hr.mono (by first|decide|lia)) (by rfl) (Zac (pv 2) Zab))
 case bdn=>exact (Zau Zdz (pv 0) (ZaB (Zar ZbE (pv 3) (pv 5))) ZaG)
 walk_at"rd"
 refine Zaj hpk (v:=.int p1) (Zan (n:=1) rfl rfl) ?_
 walk_at"rd"
 refine Zef (big (by lia)) ?_
 walk_at"rd"
 refine rd_I (by lia) ?_
 obtain ⟨a,ha⟩:∃ a:Nat,p1 % ((t.length:Int)+1)=a:=⟨_,(Int.toNat_of_nonneg (Int.emod_nonneg _ (by lia))).symm⟩
 have hat:a<=t.length:=by
  have:=Int.emod_lt_of_pos p1 (show (0:Int) < (t.length:Int)+1 by lia)
  lia
 rw [ha]
 walk_at"rd"
 refine Zaj hpk (v:=.int p0) (Zan (n:=0) rfl rfl) ?_
 walk_at"rd"
 refine ZaS (fun _=>?_) (fun _=>?_)
 ·walk_at"rd"
  refine Zgn (by lia) (by lia) fun l1=>?_
  walk_at"rd"
  refine use1 ⟨b,l,rfl,Bg,fun c H1 hc B1 b1=>?_⟩
  refine ZaQ (big (by rw [ZcC];lia)) ?_
  walk_at"rd"
  refine Zee (by lia) (by lia) fun l2=>?_
  refine ZaQ (big (by rw [ZaC,ZcC];lia)) ?_
  exact k _ _ (put3 (by lia) (by rw [ZcC];decide) (ZfI hc)) (by rw [ZaC,ZaC,ZcC];lia) B1 b1
 walk_at"rd"
 refine Zaj hpk (v:=.int p0) (Zan (n:=0) rfl rfl) ?_
 walk_at"rd"
 refine ZaS (fun _=>?_) (fun _=>?_)
 ·walk_at"rd"
  refine Zgn (by lia) (by lia) fun l1=>?_
  walk_at"rd"
  refine Zee (by lia) (by lia) fun l2=>?_
  refine ZaQ (big (by lia)) ?_
  exact k _ _ (put2 (by lia)) (by rw [ZaC];lia) Bg (BSame.refl _ _)
 walk_at"rd"
 refine Zaj hpk (v:=.int p0) (Zan (n:=0) rfl rfl) ?_
 walk_at"rd"
 refine ZaS (fun _=>?_) (fun _=>?_)
 ·walk_at"rd"
  refine Zgn (by lia) (by lia) fun l1=>?_
  walk_at"rd"
  refine use1 ⟨b,l,rfl,Bg,fun c H1 hc B1 b1=>?_⟩
  refine ZaQ (big (by rw [ZcC];lia)) ?_
  walk_at"rd"
  refine Zee (by lia) (by lia) fun l2=>?_
  refine ZaQ (big (by rw [ZaC,ZcC];lia)) ?_
  exact k _ _ (put3 (by lia) (by rw [ZcC];decide) (ZfI hc)) (by rw [ZaC,ZaC,ZcC];lia) B1 b1
 refine Zfk ?_
 try dsimp +zetaDelta only
 refine Zfl (fun σ Hx=>Ex2 fun (a:Nat) (c4:Option V)=>An3 (σ=[some (.str t),some (.ref pk),some (.ref b),some (.int a),c4,none]) (a<=t.length) (Same H Hx)) ?_ fun N hN=>?_
 rotate_left
 ·walk_at"rd"
  refine Zaj hpk (v:=.int p0) (Zan (n:=0) rfl rfl) ?_
  walk_at"rd"
  refine ZaS (fun _=>?_) (fun _=>?_)
  ·walk_at"rd"
   walk_at"mk";intro q1 hq1
   have s1:=Same.new (o:=.lst [V.int 0]) hq1
   have e1:upd H q1 (.lst [V.int 0]) q1=some (.lst [V.int 0]):=Zad
   generalize upd H q1 (.lst [V.int 0])=H1 at s1 e1
   walk_at"rd"
   refine Zef (big (by lia)) ?_
   walk_at"rd"
   refine ZdY (by lia) (by lia) ?_
   refine Zfb (n:=((t.length:Nat):Int).toNat) (big (by lia)) (fun j ys σ Hz=>An3 (∃ x1,σ=[x1,some (.str t)]) (Hz=H1) (∃ ms:List Nat,An3 (ys=ms.map (fun m:Nat=>V.int (m:Int))) (∀ m∈ms,m<=j) (ms.length<=j))) ⟨⟨none,rfl⟩,rfl,[],rfl,by simp,Nat.le_refl _⟩ ?_ ?_
   ·rintro j ys σ Hz hj hle hlt ⟨⟨x1,rfl⟩,rfl,ms,rfl,hm,hml⟩
    have hjl:j < (cs t).length:=by rw [Za0];lia
    walk_at"rd"
    refine ⟨t,_,(cs t)[j],rfl,rfl,big (by lia),Zan (n:=j) (by simp) (getElem?_eq_getElem hjl),?_⟩
    walk_at"rd"
    refine ZaS (fun _=>?_) (fun _=>?_)
    ·walk_at"rd"
     refine ⟨hlt,by simpa using hle,⟨_,rfl⟩,rfl,ms++[j+1],by simp,fun m hm'=>?_,by simp;lia⟩
     rcases mem_append.mp hm' with hm'|hm'
     ·have:=hm m hm';lia
     ·rw [mem_singleton.mp hm'];exact Nat.le_refl _
    ·exact ⟨by simpa using Nat.le_succ_of_le hle,⟨_,rfl⟩,rfl,ms,rfl,fun m hm'=>by have:=hm m hm';lia,by lia⟩
   rintro ys σ Hz _ ⟨⟨x1,rfl⟩,rfl,ms,rfl,hm,hml⟩ p3 hp3
   have s3:=Same.new (o:=.lst (ms.map fun m:Nat=>V.int (m:Int))) hp3
   have e3:upd Hz p3 (.lst (ms.map fun m:Nat=>V.int (m:Int))) p3=some (.lst (ms.map fun m:Nat=>V.int (m:Int))):=Zad
   generalize upd Hz p3 (.lst (ms.map fun m:Nat=>V.int (m:Int)))=H3 at s3 e3
   refine ZmE (s3 _ _ e1) e3 (big (by simp;lia)) fun p4 hp4=>?_
   have s4:=Same.new (o:=.lst ([V.int 0]++ms.map fun m:Nat=>V.int (m:Int))) hp4
   have e4:upd H3 p4 (.lst ([V.int 0]++ms.map fun m:Nat=>V.int (m:Int))) p4=some (.lst ((0::ms).map fun m:Nat=>V.int (m:Int))):=Zad
   generalize upd H3 p4 (.lst ([V.int 0]++ms.map fun m:Nat=>V.int (m:Int)))=H4 at s4 e4
   have s14:=(s1.trans s3).trans s4
   walk_at"rd"
   refine Zaj (s14 _ _ hpk) (v:=.int p1) (Zan (n:=1) rfl rfl) ?_
   walk_at"rd"
   refine Zbf (SqL.of e4) ?_
   walk_at"rd"
   refine rd_I (by simp) ?_
   have hpos:(0:Int) < (((0::ms).map fun m:Nat=>V.int (m:Int)).length:Int):=by simp
   obtain ⟨i,hi⟩:∃ i:Nat,p1 % (((0::ms).map fun m:Nat=>V.int (m:Int)).length:Int)=i:=⟨_,(Int.toNat_of_nonneg (Int.emod_nonneg _ (by lia))).symm⟩
   have hil:i < (0::ms).length:=by
    have:=Int.emod_lt_of_pos p1 hpos
    rw [hi,length_map] at this
    lia
   rw [hi]
   refine Zaj e4 (v:=.int ((0::ms)[i]:Nat)) (Zan (n:=i) rfl (by rw [getElem?_map,getElem?_eq_getElem hil];rfl)) ?_
   walk_at"rd"
   refine hN _ _ ⟨(0::ms)[i],_,rfl,?_,s14⟩
   rcases mem_cons.mp (getElem_mem hil) with e|e
   ·rw [e];exact Nat.zero_le _
   ·have:=hm _ e;lia
  ·walk_at"rd"
   exact hN _ _ ⟨a,_,rfl,hat,Same.refl _⟩
 rintro σ Hx ⟨a,c4,rfl,hat,sx⟩
 walk_at"rd"
 refine Zaj (sx _ _ hpk) (v:=.int p2) (Zan (n:=2) rfl rfl) ?_
 walk_at"rd"
 refine rd_I (ZgK (by decide) (by decide +kernel)) ?_
 walk_at"rd"
 refine rd_I (by decide) ?_
 walk_at"rd"
 walk_at"mk";intro q5 hq5
 have B5:=(Bg.mono sx).mono (Same.new (o:=.lst [V.int 0,V.int 0,V.int (p2 / 3 % 13)]) hq5)
 have s5:=Same.new (o:=.lst [V.int 0,V.int 0,V.int (p2 / 3 % 13)]) hq5
 have e5:upd Hx q5 (.lst [V.int 0,V.int 0,V.int (p2 / 3 % 13)]) q5=some (.lst [V.int 0,V.int 0,V.int (p2 / 3 % 13)]):=Zad
 generalize upd Hx q5 (.lst [V.int 0,V.int 0,V.int (p2 / 3 % 13)])=H5 at s5 e5 B5
 have sx5:=sx.trans s5
 walk_at"rd"
 refine Zaj (sx5 _ _ hpk) (v:=.int p2) (Zan (n:=2) rfl rfl) ?_
 walk_at"rd"
 refine rd_I (by decide) ?_
 obtain ⟨g,hg,hge⟩:∃ g:Nat,g<=12/\atI [V.int 0,V.int 0,V.int (p2 / 3 % 13)] (p2 % 3)=some (V.int (g:Int)):=by
  have h1:=Int.emod_nonneg p2 (show (3:Int)≠0 by decide)
  have h2:=Int.emod_lt_of_pos p2 (show (0:Int) < 3 by decide)
  have h3:=Int.emod_nonneg (p2 / 3) (show (13:Int)≠0 by decide)
  have h4:=Int.emod_lt_of_pos (p2 / 3) (show (0:Int) < 13 by decide)
  rcases (show p2 % 3=0\/p2 % 3=1\/p2 % 3=2 by lia) with e|e|e
  ·exact ⟨0,by decide,Zan (n:=0) (by rw [e];rfl) rfl⟩
  ·exact ⟨0,by decide,Zan (n:=1) (by rw [e];rfl) rfl⟩
  ·exact ⟨(p2 / 3 % 13).toNat,by lia,Zan (n:=2) (by rw [e];rfl) (by simp;lia)⟩
 refine Zaj e5 hge ?_
 walk_at"rd"
 refine Zgn (by lia) (by lia) fun l1=>?_
 walk_at"rd"
 refine use1 ⟨b,l,rfl,B5,fun zr H6 az lz B6 b6=>?_⟩
 refine ZaQ (big (by lia)) ?_
 walk_at"rd"
 refine Zee (by lia) (by lia) fun l2=>?_
 refine ZaQ (big (by rw [ZaC];lia)) ?_
 exact k _ _ (put3 (by lia) lz az) (by rw [ZaC,ZaC];lia) B6 ((BSame.of sx5).trans b6)
structure TBok (L F M:Nat):Prop where
 l:L<=880000
 f:F<=2000
 m:M<=40000
noncomputable def upL (L F M:Nat):Nat:=L+M+12 * F+2000
noncomputable def TBup (L F M:Nat) (t:Str):Prop:=TB (upL L F M) (2 * F+130) (2 * M+1000) t
theorem TB.up {L F M L' F' M':Nat} {t:Str} (h:TB L F M t) (h1:L<=L') (h2:F<=F') (h3:M<=M'):TB L' F' M' t:=⟨h.asc,Nat.le_trans h.len h1,Nat.le_trans h.fd h2,h.ln.mono h3⟩
theorem Zjm {c : Nat} : ∀ {ls : List Str}, (∀ l ∈ ls, l.length <= c) -> (ls.map (·.length)).sum <= c * ls.length
  | [], _ => Nat.le_refl _
  | x :: l, h => by
    have h1 := h x mem_cons_self
    have h2 := Zjm fun y hy => h y (mem_cons_of_mem x hy)
    rw [map_cons, sum_cons, length_cons, Nat.mul_succ]
    lia
theorem ZiV {t:Str}:((Txt.split t ⟨#[10]⟩).map (·.length)).sum+(Txt.split t ⟨#[10]⟩).length=t.length+1:=by
 have e:=congrArg cs (StrLaws.join_split t ⟨#[10]⟩)
 rw [Zbg] at e
 have h:=Ze9 (c:=10) (ps:=(Txt.split t ⟨#[10]⟩).map cs) (fun z=>ZbV _ _ (map_eq_nil_iff.mp z))
 rw [e,Za0,length_map,map_map] at h
 have h3:((Txt.split t ⟨#[10]⟩).map ((fun x:List Nat=>x.length) ∘ cs)).sum=((Txt.split t ⟨#[10]⟩).map (·.length)).sum:=by congr 1
 lia
inductive Pr_spoil (x y z:V) (H:Hp) (Q:VK):Prop
 | mk (t L F M pk p0 p1 p2 p3 b l) (_:x=.str t) (_:TB L F M t) (_:TBok L F M) (_:y=.ref pk) (_:H pk=some (.lst [.int p0,.int p1,.int p2,.int p3])) (_:pk≠b) (_:z=.ref b) (_:BagAt H b l) (_:0<=p2/\p2 < 64) (_:0<=p3/\p3 < 19) (_:∀ t' H',TBup L F M t'->BagAt H' b l->BSame b H H'->Q (.str t') H'):Pr_spoil x y z H Q
noncomputable def Zgl:Sp:=sp3 (Pr_spoil)
theorem Znh {y z:Str} {to:TE} {σ:St} {H:Hp} {Q:VK} (h:to σ H fun x H1=>∃ t,x=.str t/\t.length<=1000000/\Q (.str (Txt.replace t y z)) H1):tRepl y z to σ H Q:=h
theorem Zlh {H:Hp} {q:Addr} {o:HO} (h:H q=some o):upd H q o=H:=by
 funext a
 by_cases e:a=q
 ·rw [e,Zad,h]
 ·rw [Zat e]
theorem sc__law_each_line:FnScope ["text","pick","bag","piece","lines","line"] ["text","pick","bag"] (Zam ZbP):=⟨rfl,rfl,rfl,by decide +kernel,rfl,by decide +kernel,by decide +kernel⟩
theorem Ze4 (B:Blt mg) (T__law_each_line:TopFn K mg "_law_each_line" ZbP ["text","pick","bag"]) (C_law_run:CalleeS P w K mg base "_law_run" 3 ["bag"] Zjr):Callee P w K mg base "_law_each_line" 4 ["text","pick","bag"] Zgl:=by
 refine T__law_each_line.ok3 sc__law_each_line fun f cdv A outer s H v1 v2 v3 Q E hr h=>?_
 have nd:=sc__law_each_line.nd
 obtain ⟨t,L,F,M,pk,p0,p1',p2,p3,b,l,rfl,tb,ok,rfl,hpk,npk,rfl,Bg,_,_,k⟩:=h
 have hL:=ok.l
 have hF:=ok.f
 have hM:=ok.m
 have tl:=tb.len
 refine' Zbl [some (.str t),some (.ref pk),some (.ref b),none,none,none] rfl ?hb ?hg
 case' hb=>refine' Zae ?bab ?bac
 case' bab=>refine' Zbk (i:=3) ?bad ?bae ?baf ?bag
 case bad=>exact nd
 case bae=>exact rfl
 case baf=>exact (Or.inl rfl)
 case bag=>exact (ZlK (by decide) (by decide) (pe_fnS C_law_run (hr.mono (by first|decide|lia)) (by rfl) (Zac (pv 2) Zab)))
 case' bac=>refine' Zae ?bah ?bai
 case bah=>exact (Zcm (i:=4) nd rfl (Or.inl rfl) (Zba Zab))
 case' bai=>refine' Zae ?baj ?bak
 case' baj=>refine' Zch ?bal ?bam ?ban ?bao ?bap
 case bal=>exact PassesOwn.never
 case bam=>exact rfl
 case' ban=>refine' Za4 (K:=K) ?baq ?bar
 case baq=>exact rfl
 case bar=>exact (k_bm (K:=K) rfl PySem.F.plainAttrs_str PySem.F.slot_str_split PySem.F.type_str_split Zb1 (pv 0) (Zaf Zak Zab))
 case bao=>exact (ZaE (i:=5) nd rfl (Or.inl rfl))
 case' bap=>refine' Zag ?bas
 case' bas=>refine' Za1 ?bat ?bau ?bav
 case' bat=>refine' PW.pt ?baw
 case' baw=>refine' ZcP ?bax ?bay
 case bax=>exact (Zal Zbc (Zar Zci (Zao (k_ix (K:=K) rfl) (pv 1) Zaa (fun _ _=>rfl)) Zaa) Zaa (Zas _))
 case bay=>exact (ZbX (Zal Zbc (Zau Zdz (pv 5) ZaG (ZaB Zaa)) Zak (Zas _)))
 case' bau=>refine' Zag ?baz
 case baz=>exact (Zby (k_bm (K:=K) rfl PySem.F.plainAttrs_list PySem.F.slot_list_append PySem.F.type_list_append Za3 (pv 4) (Zac (pv 5) Zab)))
 case' bav=>refine' Zag ?bba
 case' bba=>refine' Za1 ?bbb ?bbc ?bbd
 case bbb=>exact (Zal Zbc (Zar Zci (Zao (k_ix (K:=K) rfl) (pv 1) Zaa (fun _ _=>rfl)) Zaa) Zaa (Zas _))
 case' bbc=>refine' Zag ?bbe
 case' bbe=>refine' Zby ?bbf
 case' bbf=>refine' k_bm (K:=K) ?bbg ?bbh ?bbi ?bbj ?bbk ?bbl ?bbm
 case bbg=>exact rfl
 case bbh=>exact PySem.F.plainAttrs_list
 case bbi=>exact PySem.F.slot_list_append
 case bbj=>exact PySem.F.type_list_append
 case bbk=>exact Za3
 case bbl=>exact (pv 4)
 case bbm=>exact (Zbi (Zar ZaR (pv 3) (pv 5)) Zab)
 case' bbd=>refine' Zag ?bbn
 case' bbn=>refine' Za1 ?bbo ?bbp ?bbq
 case bbo=>exact (Zal Zbc (Zar Zci (Zao (k_ix (K:=K) rfl) (pv 1) Zaa (fun _ _=>rfl)) Zaa) Zaa (Zas _))
 case' bbp=>refine' Zag ?bbr
 case' bbr=>refine' Zby ?bbs
 case' bbs=>refine' k_bm (K:=K) ?bbt ?bbu ?bbv ?bbw ?bbx ?bby ?bbz
 case bbt=>exact rfl
 case bbu=>exact PySem.F.plainAttrs_list
 case bbv=>exact PySem.F.slot_list_append
 case bbw=>exact PySem.F.type_list_append
 case bbx=>exact Za3
 case bby=>exact (pv 4)
 case bbz=>exact (Zbi (Zar ZaR (pv 5) (pv 3)) Zab)
 case' bbq=>refine' Zag ?bca
 case' bca=>refine' Zby ?bcb
 case' bcb=>refine' k_bm (K:=K) ?bcc ?bcd ?bce ?bcf ?bcg ?bch ?bci
 case bcc=>exact rfl
 case bcd=>exact PySem.F.plainAttrs_list
 case bce=>exact PySem.F.slot_list_append
 case bcf=>exact PySem.F.type_list_append
 case bcg=>exact Za3
 case bch=>exact (pv 4)
 case bci=>exact (Zay (k_bm0 (K:=K) rfl PySem.F.plainAttrs_str PySem.F.slot_str_upper PySem.F.type_str_upper ZlW (pv 5)) Zab)
 case' bak=>refine' Zag ?bcj
 case bcj=>exact (ZaD (k_bm (K:=K) rfl PySem.F.plainAttrs_str PySem.F.slot_str_join PySem.F.type_str_join (ZeU (K:=K) rfl) Zak (Zac (pv 4) Zab)))
 walk_at"rd"
 refine Znh ?_
 walk_at"rd"
 refine use1 ⟨b,l,rfl,Bg,fun z H1 az lz B1 b1=>?_⟩
 refine ⟨z,rfl,by lia,?_⟩
 rw [show (Str.ofString "\n")=(⟨#[10]⟩:Str) from by decide,show Str.ofString ""=Str.empty from by decide]
 obtain ⟨pf,pl,pm⟩:=ZjB z
 generalize Txt.replace z ⟨#[10]⟩ Str.empty=pc at pf pl pm
 have pa:Zbd pc:=asc_mem.mpr fun c hc=>asc_mem.mp az c (pm c hc)
 have pl:pc.length<=12:=Nat.le_trans pl lz
 have hpk1:=b1 _ _ npk hpk
 walk_at"rd"
 walk_at"mk";intro q hq
 have s2:=Same.new (o:=.lst []) hq
 have e2:upd H1 q (.lst []) q=some (.lst []):=Zad
 have nq:=B1.ne hq
 have nqp:q≠pk:=fun z=>by rw [z,hpk1] at hq;cases hq
 generalize upd H1 q (.lst [])=H2 at s2 e2
 walk_at"rd"
 refine ⟨rfl,?_⟩
 walk_at"rd"
 refine ZdR (by decide) (ZaN (by lia)) fun p1 hp1=>?_
 rw [show (Str.ofString "\n")=(⟨#[10]⟩:Str) from by decide]
 obtain ⟨hcnt,hpart⟩:=tb.lines
 have hsz:=ZiV (t:=t)
 have hlne:=ZbV t ⟨#[10]⟩
 generalize Txt.split t ⟨#[10]⟩=lines at hcnt hpart hsz hlne
 have n1:p1≠q:=fun z=>by rw [z,e2] at hp1;cases hp1
 have e1:upd H2 p1 (.lst (lines.map V.str)) p1=some (.lst (lines.map V.str)):=Zad
 have s3:=Same.new (o:=.lst (lines.map V.str)) hp1
 generalize upd H2 p1 (.lst (lines.map V.str))=H3 at s3 e1
 have eq3:=s3 _ _ e2
 have pk3:=s3 _ _ (s2 _ _ hpk1)
 have B3:=(B1.mono s2).mono s3
 have b3:BSame b H H3:=(b1.to s2).to s3
 refine Zb4 (SqL.of e1) ?_
 refine ZcD (xs:=lines.map V.str) (fun i σ Hx=>Ex2 fun (c5:Option V) (ls:List Str)=>An5 (σ=[some (.str t),some (.ref pk),some (.ref b),some (.str pc),some (.ref q),c5]) (Hx=upd H3 q (.lst (ls.map V.str))) (ls.length=i) ((ls.map (·.length)).sum<=((lines.take i).map (·.length)).sum+12 * i) (∀ y∈ls,Zbd y/\y.length<=M+12/\10∉cs y))
  ⟨none,[],rfl,by rw [map_nil];exact (Zlh eq3).symm,rfl,by simp,fun y hy=>by cases hy⟩ (fun i σ Hx _ z_=>by obtain ⟨_,_,_,e,_⟩:=z_;exact SqL.of (by rw [e,Zat n1];exact e1)) ?_ ?_
 ·rintro i x σ Hx hx ⟨c5,ls,rfl,rfl,hll,hsum,hall⟩ N hN
  rw [getElem?_map] at hx
  obtain ⟨ln,el,rfl⟩:=Option.map_eq_some_iff.mp hx
  obtain ⟨la,lm,lf⟩:=hpart ln (mem_of_getElem? el)
  have hil:i < lines.length:=(List.getElem?_eq_some_iff.mp el).1
  have eqx:upd H3 q (.lst (ls.map V.str)) q=some (.lst (ls.map V.str)):=Zad
  have pkx:upd H3 q (.lst (ls.map V.str)) pk=some (.lst [.int p0,.int p1',.int p2,.int p3]):=by rw [Zat (Ne.symm nqp)];exact pk3
  have fin:∀ y,Zbd y->y.length<=ln.length+12->10∉cs y->N [some (.str t),some (.ref pk),some (.ref b),some (.str pc),some (.ref q),some (.str ln)] (upd (upd H3 q (.lst (ls.map V.str))) q (.lst (ls.map V.str++[.str y]))):=fun y ya yl yf=>hN _ _ ⟨_,ls++[y],rfl,by rw [Zm2,map_append];rfl,by rw [length_append,hll];rfl,by
   rw [take_add_one,el]
   simp only [map_append,sum_append,map_cons,map_nil,sum_cons,sum_nil,Option.toList]
   lia,fun z hz=>by
   rcases mem_append.mp hz with hz|hz
   ·exact hall z hz
   ·rw [mem_singleton.mp hz];exact ⟨ya,by lia,yf⟩⟩
  have room:(ls.map V.str).length < PySem.sizeLine:=by rw [length_map,PySem.sizeLine_eq];lia
  walk_at"rd"
  refine Zaj pkx (v:=.int p3) (Zan (n:=3) rfl rfl) ?_
  walk_at"rd"
  refine rd_I (by decide) ?_
  walk_at"rd"
  refine ZaS (fun _=>?_) (fun _=>?_)
  ·walk_at"rd"
   refine ZjF (by lia) fun _=>?_
   walk_at"rd"
   refine ZaS (fun _=>?_) (fun _=>?_)
   ·walk_at"rd"
    refine ⟨.inl ⟨rfl,_,SqL.of eqx⟩,?_⟩
    walk_at"rd"
    refine ZaV eqx room ?_
    exact fin _ la (by lia) lf
   ·walk_at"rd"
    refine Zaj pkx (v:=.int p2) (Zan (n:=2) rfl rfl) ?_
    walk_at"rd"
    refine rd_I (by decide) ?_
    walk_at"rd"
    refine ZaS (fun _=>?_) (fun _=>?_)
    ·walk_at"rd"
     refine ⟨.inl ⟨rfl,_,SqL.of eqx⟩,?_⟩
     walk_at"rd"
     refine ZaQ (ZaN (by lia)) ?_
     walk_at"rd"
     refine ZaV eqx room ?_
     exact fin _ (Zdv pa la) (by rw [ZaC];lia) (by rw [Za8];exact fun z=>(mem_append.mp z).elim pf lf)
    ·walk_at"rd"
     refine Zaj pkx (v:=.int p2) (Zan (n:=2) rfl rfl) ?_
     walk_at"rd"
     refine rd_I (by decide) ?_
     walk_at"rd"
     refine ZaS (fun _=>?_) (fun _=>?_)
     ·walk_at"rd"
      refine ⟨.inl ⟨rfl,_,SqL.of eqx⟩,?_⟩
      walk_at"rd"
      refine ZaQ (ZaN (by lia)) ?_
      walk_at"rd"
      refine ZaV eqx room ?_
      exact fin _ (Zdv la pa) (by rw [ZaC];lia) (by rw [Za8];exact fun z=>(mem_append.mp z).elim lf pf)
     ·walk_at"rd"
      refine ⟨.inl ⟨rfl,_,SqL.of eqx⟩,?_⟩
      walk_at"rd"
      refine ⟨rfl,?_⟩
      refine Zii la (by lia) ?_
      obtain ⟨u1,u2,u3⟩:=Zgi la
      walk_at"rd"
      refine ZaV eqx room ?_
      exact fin _ u1 (by lia) (u3 lf)
  ·walk_at"rd"
   refine Zaj pkx (v:=.int p2) (Zan (n:=2) rfl rfl) ?_
   walk_at"rd"
   refine rd_I (by decide) ?_
   walk_at"rd"
   refine ZaS (fun _=>?_) (fun _=>?_)
   ·walk_at"rd"
    refine ⟨.inl ⟨rfl,_,SqL.of eqx⟩,?_⟩
    walk_at"rd"
    refine ZaQ (ZaN (by lia)) ?_
    walk_at"rd"
    refine ZaV eqx room ?_
    exact fin _ (Zdv pa la) (by rw [ZaC];lia) (by rw [Za8];exact fun z=>(mem_append.mp z).elim pf lf)
   ·walk_at"rd"
    refine Zaj pkx (v:=.int p2) (Zan (n:=2) rfl rfl) ?_
    walk_at"rd"
    refine rd_I (by decide) ?_
    walk_at"rd"
    refine ZaS (fun _=>?_) (fun _=>?_)
    ·walk_at"rd"
     refine ⟨.inl ⟨rfl,_,SqL.of eqx⟩,?_⟩
     walk_at"rd"
     refine ZaQ (ZaN (by lia)) ?_
     walk_at"rd"
     refine ZaV eqx room ?_
     exact fin _ (Zdv la pa) (by rw [ZaC];lia) (by rw [Za8];exact fun z=>(mem_append.mp z).elim lf pf)
    ·walk_at"rd"
     refine ⟨.inl ⟨rfl,_,SqL.of eqx⟩,?_⟩
     walk_at"rd"
     refine ⟨rfl,?_⟩
     refine Zii la (by lia) ?_
     obtain ⟨u1,u2,u3⟩:=Zgi la
     walk_at"rd"
     refine ZaV eqx room ?_
     exact fin _ u1 (by lia) (u3 lf)
 ·rintro σ Hx ⟨c5,ls,rfl,rfl,hll,hsum,hall⟩
  rw [length_map] at hll hsum
  rw [take_length] at hsum
  have hne:ls≠[]:=fun e=>by rw [e] at hll;exact hlne (eq_nil_of_length_eq_zero hll.symm)
  walk_at"rd"
  refine ⟨rfl,?_⟩
  walk_at"rd"
  refine ZeD (zs:=ls) (SqL.of Zad) (by decide) (by lia) ?_
  rw [show (Str.ofString "\n")=(⟨#[10]⟩:Str) from by decide]
  refine k _ _ (TB.up (TB.join (N:=upL L F M) (F:=F) hne (by lia) hall (by unfold upL;lia)) (Nat.le_refl _) (by lia) (by lia)) (B3.wr nq.1 nq.2) (fun a o n e=>?_)
  rw [Zat (fun z=>?_)]
  ·exact b3 _ _ n e
  ·rw [z] at e
   have:=b1 _ _ (Ne.symm nq.1) e
   rw [this] at hq
   cases hq
inductive Pr_bent_lines (x y:V) (H:Hp) (Q:VK):Prop
 | mk (t L F M pk p0 p1 p2 p3) (_:x=.str t) (_:TB L F M t) (_:TBok L F M) (_:y=.ref pk) (_:H pk=some (.lst [.int p0,.int p1,.int p2,.int p3])) (_:0<=p2/\p2 < 64) (_:0<=p3/\p3 < 19) (_:∀ t' H',TBup L F M t'->Same H H'->Q (.str t') H'):Pr_bent_lines x y H Q
noncomputable def Zec:Sp:=sp2 (Pr_bent_lines)
inductive BI (t:Str) (pk pl ps pw:Addr) (a kk:Nat) (wds lines ws:List Str) (H:Hp) (L F M:Nat) (p0:Int) (n:Int) (σ:St) (Hx:Hp):Prop
 | mk (p ls c7 c8) (_:σ=[some (.str t),some (.ref pk),some (.ref p),some (.int a),some (.ref ps),some (.int kk),some (.ref pw),c7,c8]) (_:Hx p=some (.lst (ls.map V.str))) (_:LSt (L+M+1900) (F+129) (M+900) ls) (_:n < p0->p=pl/\ls=lines) (_:Same H Hx) (_:Hx ps=some (.lst (ws.map V.str))) (_:Hx pw=some (.lst (wds.map V.str))):BI t pk pl ps pw a kk wds lines ws H L F M p0 n σ Hx
theorem Zfy {z:Str} {n:Int} (ha:∀ c∈cs z,c < 128/\c≠10) (h1:z.length=1) (hn:n<=301):Lin 301 (repS z n):=by
 obtain ⟨x1,x2⟩:=ZjD z n
 refine ⟨Zh5 (asc_mem.mpr fun c hc=>(ha c hc).1),?_,fun z=>(ha _ (x1 _ z)).2 rfl⟩
 rw [h1] at x2
 lia
theorem ZjC : ∀ m : Nat, (List.replicate m ([V.str "stand 0", V.str "leave"] : List V)).flatten = ((List.replicate m (["stand 0", "leave"] : List Str)).flatten).map V.str
  | 0 => rfl
  | m + 1 => by
    rw [replicate_succ, replicate_succ, flatten_cons, flatten_cons, ZjC m, map_append]
    rfl
theorem Zlq {H:Hp} {l:Addr} {k:Int} {m:Nat} {Q:VK} (h:H l=some (.lst [V.str "stand 0",V.str "leave"])) (e:k=m) (hm:m<=1000) (q:∀ p H',Same H H'->H' p=some (.lst (((List.replicate m (["stand 0","leave"]:List Str)).flatten).map V.str))->Q (.ref p) H'):rRep (.ref l) (.int k) H Q:=by
 subst e
 refine ⟨l,m,_,rfl,rfl,h,by lia,by lia,?_,fun p hp=>q p _ (Same.new hp) ?_⟩
 ·rw [PySem.sizeLine_eq]
  show 2 * m<=_
  lia
 ·rw [Zad]
  show some (HO.lst (List.replicate m [V.str "stand 0",V.str "leave"]).flatten)=_
  rw [ZjC]
theorem Zjh (M : Nat) : ∀ m : Nat, LSt (14 * m) (2 * m) (M + 900) (List.replicate m (["stand 0", "leave"] : List Str)).flatten
  | 0 => ⟨Nat.le_refl _, (fun p hp => by cases hp), Nat.le_refl _⟩
  | m + 1 => by
    have ih := Zjh M m
    have h1 : Lin (M + 900) (Str.ofString "stand 0") := ⟨asc_mem.mpr (by decide), Nat.le_trans (show (Str.ofString "stand 0").length <= 900 by decide) (by lia), by decide⟩
    have h2 : Lin (M + 900) (Str.ofString "leave") := ⟨asc_mem.mpr (by decide), Nat.le_trans (show (Str.ofString "leave").length <= 900 by decide) (by lia), by decide⟩
    rw [replicate_succ, flatten_cons]
    have i1 := ih.cnt
    have i2 := ih.sz
    refine ⟨?_, fun p hp => ?_, ?_⟩
    · simp only [length_append, length_cons, length_nil]
      lia
    · rcases mem_append.mp hp with hp | hp
      · rcases mem_cons.mp hp with rfl | hp
        · exact h1
        · rw [mem_singleton.mp hp]; exact h2
      · exact ih.all p hp
    · have e1 : (Str.ofString "stand 0").length = 7 := by decide
      have e2 : (Str.ofString "leave").length = 5 := by decide
      simp only [map_append, map_cons, map_nil, sum_append, sum_cons, sum_nil, length_append, length_cons, length_nil, e1, e2]
      lia
noncomputable def wA72:List Str:=["stand","frame","edge","go","test","tell","take","hold","leave"]
noncomputable def wB72:List Str:=["","0","-1","0;1:0","1;","00"]
theorem w72_ok:∀ z∈wA72++wB72,(∀ c∈cs z,c < 128)/\z.length<=604/\10∉cs z:=by decide +kernel
theorem sc__law_bent_lines:FnScope ["text","pick","lines","at","some","k","words","rest","other"] ["text","pick"] (Zam ZbI):=⟨rfl,rfl,rfl,by decide +kernel,rfl,by decide +kernel,by decide +kernel⟩
theorem ZeK (B:Blt mg) (T__law_bent_lines:TopFn K mg "_law_bent_lines" ZbI ["text","pick"]):Callee P w K mg base "_law_bent_lines" 1 ["text","pick"] Zec:=by
 refine T__law_bent_lines.ok2 sc__law_bent_lines fun f cdv A outer s H v1 v2 Q E hr h=>?_
 have nd:=sc__law_bent_lines.nd
 obtain ⟨t,L,F,M,pk,p0,p1',p2,p3,rfl,tb,ok,rfl,hpk,hp2,hp3,k⟩:=h
 have hL:=ok.l
 have hF:=ok.f
 have hM:=ok.m
 have tl:=tb.len
 refine' Zbl [some (.str t),some (.ref pk),none,none,none,none,none,none,none] rfl ?hb ?hg
 case' hb=>refine' Zae ?bab ?bac
 case' bab=>refine' Zbk (i:=2) ?bad ?bae ?baf ?bag
 case bad=>exact nd
 case bae=>exact rfl
 case baf=>exact (Or.inl rfl)
 case bag=>exact (k_bm (K:=K) rfl PySem.F.plainAttrs_str PySem.F.slot_str_split PySem.F.type_str_split Zb1 (pv 0) (Zaf Zak Zab))
 case' bac=>refine' Zae ?bah ?bai
 case' bah=>refine' Zbr (i:=3) ?baj ?bak ?bal ?bam
 case baj=>exact nd
 case bak=>exact rfl
 case bal=>exact (Or.inl rfl)
 case' bam=>refine' Zar ?ban ?bao ?bap
 case ban=>exact Zci
 case bao=>exact (Zao (k_ix (K:=K) rfl) (pv 1) Zaa (fun _ _=>rfl))
 case bap=>exact (Zaw (Zcu (K:=K) rfl) (by rfl) B.b_len ZbA (Zac (pv 2) Zab))
 case' bai=>refine' Zae ?baq ?bar
 case' baq=>refine' Zbk (i:=4) ?bas ?bat ?bau ?bav
 case bas=>exact nd
 case bat=>exact rfl
 case bau=>exact (Or.inl rfl)
 case' bav=>refine' k_bm (K:=K) ?baw ?bax ?bay ?baz ?bba ?bbb ?bbc
 case baw=>exact rfl
 case bax=>exact PySem.F.plainAttrs_str
 case bay=>exact PySem.F.slot_str_split
 case baz=>exact PySem.F.type_str_split
 case bba=>exact Zb1
 case bbb=>exact (Zao (k_ix (K:=K) rfl) (pv 2) (pv 3) (fun _ _=>rfl))
 case bbc=>exact (Zaf Zak Zab)
 case' bar=>refine' Zae ?bbd ?bbe
 case' bbd=>refine' Zbr (i:=5) ?bbf ?bbg ?bbh ?bbi
 case bbf=>exact nd
 case bbg=>exact rfl
 case bbh=>exact (Or.inl rfl)
 case' bbi=>refine' Zar ?bbj ?bbk ?bbl
 case bbj=>exact Zci
 case bbk=>exact (Zao (k_ix (K:=K) rfl) (pv 1) Zaa (fun _ _=>rfl))
 case bbl=>exact (Zar ZbE (Zaw (Zcu (K:=K) rfl) (by rfl) B.b_len ZbA (Zac (pv 4) Zab)) Zaa)
 case' bbe=>refine' Zae ?bbm ?bbn
 case' bbm=>refine' Zcm (i:=6) ?bbo ?bbp ?bbq ?bbr
 case bbo=>exact nd
 case bbp=>exact rfl
 case bbq=>exact (Or.inl rfl)
 case' bbr=>refine' Zba ?bbs
 case' bbs=>refine' Zaf ?bbt ?bbu
 case bbt=>exact Zak
 case bbu=>exact (Zaf Zak (Zaf Zak (Zaf Zak (Zaf Zak (Zaf Zak (Zaf Zak (Zaf Zak (Zaf Zak Zab))))))))
 case' bbn=>refine' Zae ?bbv ?bbw
 case' bbv=>refine' Zbr (i:=6) ?bbx ?bby ?bbz ?bca
 case bbx=>exact nd
 case bby=>exact rfl
 case bbz=>exact (Or.inl rfl)
 case' bca=>refine' Zar ?bcb ?bcc ?bcd
 case bcb=>exact Zcj
 case bcc=>exact (pv 6)
 case' bcd=>refine' Zba ?bce
 case' bce=>refine' Zaf ?bcf ?bcg
 case bcf=>exact Zak
 case' bcg=>refine' Zaf ?bch ?bci
 case bch=>exact Zak
 case' bci=>refine' Zaf ?bcj ?bck
 case bcj=>exact Zak
 case' bck=>refine' Zaf ?bcl ?bcm
 case bcl=>exact Zak
 case' bcm=>refine' Zaf ?bcn ?bco
 case bcn=>exact Zak
 case' bco=>refine' Zaf ?bcp ?bcq
 case bcp=>exact Zak
 case' bcq=>refine' Zbi ?bcr ?bcs
 case bcr=>exact (Zar Zdo Zak Zaa)
 case bcs=>exact (Zbi (Zar ZaR Zak (Zar Zdo Zak Zaa)) (Zbi (Zar Zdo Zak Zaa) Zab))
 case' bbw=>refine' Zae ?bct ?bcu
 case' bct=>refine' Zby ?bcv
 case' bcv=>refine' k_bm (K:=K) ?bcw ?bcx ?bcy ?bcz ?bda ?bdb ?bdc
 case bcw=>exact rfl
 case bcx=>exact PySem.F.plainAttrs_list
 case bcy=>exact PySem.F.slot_list_append
 case bcz=>exact PySem.F.type_list_append
 case bda=>exact Za3
 case bdb=>exact (pv 6)
 case' bdc=>refine' Zbi ?bdd ?bde
 case' bdd=>refine' Zar ?bdf ?bdg ?bdh
 case bdf=>exact ZaR
 case bdg=>exact (Zar ZaR (Zar ZaR Zak (Zar Zdo Zak Zaa)) Zak)
 case bdh=>exact (Zar Zdo Zak (Zar ZbE Zaa (Zar Zci (Zao (k_ix (K:=K) rfl) (pv 1) Zaa (fun _ _=>rfl)) Zaa)))
 case bde=>exact Zab
 case' bcu=>refine' Zae ?bdi ?bdj
 case' bdi=>refine' Za1 ?bdk ?bdl ?bdm
 case bdk=>exact (Zal Zbc (Zao (k_ix (K:=K) rfl) (pv 1) Zaa (fun _ _=>rfl)) Zaa (Zas _))
 case' bdl=>refine' Zag ?bdn
 case' bdn=>refine' Zbr (i:=2) ?bdo ?bdp ?bdq ?bdr
 case bdo=>exact nd
 case bdp=>exact rfl
 case bdq=>exact (Or.inl rfl)
 case' bdr=>refine' Zar ?bds ?bdt ?bdu
 case bds=>exact Zcj
 case bdt=>exact (Zau (k_sl (K:=K) rfl) (pv 2) ZaG (ZaB (pv 3)))
 case bdu=>exact (Zau (k_sl (K:=K) rfl) (pv 2) (ZaB (Zar ZbE (pv 3) Zaa)) ZaG)
 case bdm=>exact Zaz
 case' bdj=>refine' Zae ?bdv ?bdw
 case' bdv=>refine' Za1 ?bdx ?bdy ?bdz
 case bdx=>exact (Zal Zbc (Zao (k_ix (K:=K) rfl) (pv 1) Zaa (fun _ _=>rfl)) Zaa (Zas _))
 case' bdy=>refine' Zae ?bea ?beb
 case' bea=>refine' Zbr (i:=7) ?bec ?bed ?bee ?bef
 case bec=>exact nd
 case bed=>exact rfl
 case bee=>exact (Or.inl rfl)
 case' bef=>refine' Zar ?beg ?beh ?bei
 case beg=>exact Zcj
 case beh=>exact (Zau (k_sl (K:=K) rfl) (pv 2) ZaG (ZaB (pv 3)))
 case bei=>exact (Zau (k_sl (K:=K) rfl) (pv 2) (ZaB (Zar ZbE (pv 3) Zaa)) ZaG)
 case' beb=>refine' Zae ?bej ?bek
 case' bej=>refine' Zbr (i:=8) ?bel ?bem ?ben ?beo
 case bel=>exact nd
 case bem=>exact rfl
 case ben=>exact (Or.inl rfl)
 case' beo=>refine' Zar ?bep ?beq ?ber
 case bep=>exact Zci
 case beq=>exact (Zao (k_ix (K:=K) rfl) (pv 1) Zaa (fun _ _=>rfl))
 case ber=>exact (Zaw (Zcu (K:=K) rfl) (by rfl) B.b_len ZbA (Zac (pv 2) Zab))
 case' bek=>refine' Zag ?bes
 case' bes=>refine' Zbr (i:=2) ?bet ?beu ?bev ?bew
 case bet=>exact nd
 case beu=>exact rfl
 case bev=>exact (Or.inl rfl)
 case' bew=>refine' Zar ?bex ?bey ?bez
 case bex=>exact Zcj
 case' bey=>refine' Zar ?bfa ?bfb ?bfc
 case bfa=>exact Zcj
 case bfb=>exact (Zau (k_sl (K:=K) rfl) (pv 7) ZaG (ZaB (pv 8)))
 case bfc=>exact (Zba (Zap (Zao (k_ix (K:=K) rfl) (pv 2) (pv 3) (fun _ _=>rfl)) Zab))
 case bez=>exact (Zau (k_sl (K:=K) rfl) (pv 7) (ZaB (pv 8)) ZaG)
 case bdz=>exact Zaz
 case' bdw=>refine' Zae ?bfd ?bfe
 case' bfd=>refine' Za1 ?bff ?bfg ?bfh
 case bff=>exact (Zal Zbc (Zao (k_ix (K:=K) rfl) (pv 1) Zaa (fun _ _=>rfl)) Zaa (Zas _))
 case' bfg=>refine' Zag ?bfi
 case' bfi=>refine' Zbr (i:=2) ?bfj ?bfk ?bfl ?bfm
 case bfj=>exact nd
 case bfk=>exact rfl
 case bfl=>exact (Or.inl rfl)
 case' bfm=>refine' Zar ?bfn ?bfo ?bfp
 case bfn=>exact Zcj
 case' bfo=>refine' Zar ?bfq ?bfr ?bfs
 case bfq=>exact Zcj
 case bfr=>exact (Zau (k_sl (K:=K) rfl) (pv 2) ZaG (ZaB (pv 3)))
 case bfs=>exact (Zba (Zap (Zao (k_ix (K:=K) rfl) (pv 2) (pv 3) (fun _ _=>rfl)) Zab))
 case bfp=>exact (Zau (k_sl (K:=K) rfl) (pv 2) (ZaB (pv 3)) ZaG)
 case bfh=>exact Zaz
 case' bfe=>refine' Zae ?bft ?bfu
 case' bft=>refine' Za1 ?bfv ?bfw ?bfx
 case bfv=>exact (Zal Zbc (Zao (k_ix (K:=K) rfl) (pv 1) Zaa (fun _ _=>rfl)) Zaa (Zas _))
 case' bfw=>refine' Zag ?bfy
 case' bfy=>refine' ZcQ ?bfz ?bga
 case' bfz=>refine' k_bm (K:=K) ?bgb ?bgc ?bgd ?bge ?bgf ?bgg ?bgh
 case bgb=>exact rfl
 case bgc=>exact PySem.F.plainAttrs_str
 case bgd=>exact PySem.F.slot_str_join
 case bge=>exact PySem.F.type_str_join
 case bgf=>exact (ZeU (K:=K) rfl)
 case bgg=>exact Zak
 case' bgh=>refine' Zbi ?bgi ?bgj
 case' bgi=>refine' Zar ?bgk ?bgl ?bgm
 case bgk=>exact Zcj
 case' bgl=>refine' Zar ?bgn ?bgo ?bgp
 case bgn=>exact Zcj
 case bgo=>exact (Zau (k_sl (K:=K) rfl) (pv 4) ZaG (ZaB (pv 5)))
 case bgp=>exact (Zba (Zap (Zao (k_ix (K:=K) rfl) (pv 6) (Zao (k_ix (K:=K) rfl) (pv 1) Zaa (fun _ _=>rfl)) (fun _ _=>rfl)) Zab))
 case bgm=>exact (Zau (k_sl (K:=K) rfl) (pv 4) (ZaB (pv 5)) ZaG)
 case bgj=>exact Zab
 case bga=>exact (Zc3 (pv 2) (pv 3) ZbG)
 case bfx=>exact Zaz
 case' bfu=>refine' Zae ?bgq ?bgr
 case' bgq=>refine' Za1 ?bgs ?bgt ?bgu
 case bgs=>exact (Zal Zbc (Zao (k_ix (K:=K) rfl) (pv 1) Zaa (fun _ _=>rfl)) Zaa (Zas _))
 case' bgt=>refine' Zag ?bgv
 case' bgv=>refine' ZcQ ?bgw ?bgx
 case' bgw=>refine' k_bm (K:=K) ?bgy ?bgz ?bha ?bhb ?bhc ?bhd ?bhe
 case bgy=>exact rfl
 case bgz=>exact PySem.F.plainAttrs_str
 case bha=>exact PySem.F.slot_str_join
 case bhb=>exact PySem.F.type_str_join
 case bhc=>exact (ZeU (K:=K) rfl)
 case bhd=>exact Zak
 case' bhe=>refine' Zbi ?bhf ?bhg
 case' bhf=>refine' Zar ?bhh ?bhi ?bhj
 case bhh=>exact Zcj
 case bhi=>exact (Zau (k_sl (K:=K) rfl) (pv 4) ZaG (ZaB (pv 5)))
 case bhj=>exact (Zau (k_sl (K:=K) rfl) (pv 4) (ZaB (Zar ZbE (pv 5) Zaa)) ZaG)
 case bhg=>exact Zab
 case bgx=>exact (Zc3 (pv 2) (pv 3) ZbG)
 case bgu=>exact Zaz
 case' bgr=>refine' Zae ?bhk ?bhl
 case' bhk=>refine' Za1 ?bhm ?bhn ?bho
 case bhm=>exact (Zal Zbc (Zao (k_ix (K:=K) rfl) (pv 1) Zaa (fun _ _=>rfl)) Zaa (Zas _))
 case' bhn=>refine' Zag ?bhp
 case' bhp=>refine' ZcQ ?bhq ?bhr
 case' bhq=>refine' k_bm (K:=K) ?bhs ?bht ?bhu ?bhv ?bhw ?bhx ?bhy
 case bhs=>exact rfl
 case bht=>exact PySem.F.plainAttrs_str
 case bhu=>exact PySem.F.slot_str_join
 case bhv=>exact PySem.F.type_str_join
 case bhw=>exact (ZeU (K:=K) rfl)
 case bhx=>exact Zak
 case' bhy=>refine' Zbi ?bhz ?bia
 case' bhz=>refine' Zar ?bib ?bic ?bid
 case bib=>exact Zcj
 case' bic=>refine' Zar ?bie ?big ?bih
 case bie=>exact Zcj
 case big=>exact (Zau (k_sl (K:=K) rfl) (pv 4) ZaG (ZaB (pv 5)))
 case bih=>exact (Zba (Zap (Zao (k_ix (K:=K) rfl) (pv 6) (Zao (k_ix (K:=K) rfl) (pv 1) Zaa (fun _ _=>rfl)) (fun _ _=>rfl)) Zab))
 case bid=>exact (Zau (k_sl (K:=K) rfl) (pv 4) (ZaB (Zar ZbE (pv 5) Zaa)) ZaG)
 case bia=>exact Zab
 case bhr=>exact (Zc3 (pv 2) (pv 3) ZbG)
 case bho=>exact Zaz
 case' bhl=>refine' Zae ?bii ?bij
 case' bii=>refine' Za1 ?bik ?bil ?bim
 case bik=>exact (Zal Zbc (Zao (k_ix (K:=K) rfl) (pv 1) Zaa (fun _ _=>rfl)) Zaa (Zas _))
 case' bil=>refine' Zag ?bin
 case' bin=>refine' Zbr (i:=2) ?bio ?bip ?biq ?bir
 case bio=>exact nd
 case bip=>exact rfl
 case biq=>exact (Or.inl rfl)
 case' bir=>refine' Zar ?bis ?bit ?biu
 case bis=>exact Zcj
 case' bit=>refine' Zar ?biv ?biw ?bix
 case biv=>exact Zcj
 case biw=>exact (Zau (k_sl (K:=K) rfl) (pv 2) ZaG (ZaB (pv 3)))
 case bix=>exact (Zba (Zap (Zao (k_ix (K:=K) rfl) (pv 6) (Zao (k_ix (K:=K) rfl) (pv 1) Zaa (fun _ _=>rfl)) (fun _ _=>rfl)) Zab))
 case biu=>exact (Zau (k_sl (K:=K) rfl) (pv 2) (ZaB (pv 3)) ZaG)
 case bim=>exact Zaz
 case' bij=>refine' Zae ?biy ?biz
 case' biy=>refine' Za1 ?bja ?bjb ?bjc
 case bja=>exact (Zal Zbc (Zao (k_ix (K:=K) rfl) (pv 1) Zaa (fun _ _=>rfl)) Zaa (Zas _))
 case' bjb=>refine' Zag ?bjd
 case' bjd=>refine' Zbr (i:=2) ?bje ?bjf ?bjg ?bjh
 case bje=>exact nd
 case bjf=>exact rfl
 case bjg=>exact (Or.inl rfl)
 case' bjh=>refine' Zar ?bji ?bjj ?bjk
 case bji=>exact Zcj
 case' bjj=>refine' Zar ?bjl ?bjm ?bjn
 case bjl=>exact Zcj
 case bjm=>exact (Zau (k_sl (K:=K) rfl) (pv 2) ZaG (ZaB (pv 3)))
 case bjn=>exact (Zar op_rep (Zba (Zaf Zak (Zaf Zak Zab))) (Zar ZbE Zaa (Zao (k_ix (K:=K) rfl) (pv 1) Zaa (fun _ _=>rfl))))
 case bjk=>exact (Zau (k_sl (K:=K) rfl) (pv 2) (ZaB (pv 3)) ZaG)
 case bjc=>exact Zaz
 case' biz=>refine' Zag ?bjo
 case' bjo=>refine' ZaD ?bjp
 case' bjp=>refine' Zar ?bjq ?bjr ?bjs
 case bjq=>exact ZaR
 case' bjr=>refine' Zar ?bjt ?bju ?bjv
 case bjt=>exact ZaR
 case' bju=>refine' Zar ?bjw ?bjx ?bjy
 case bjw=>exact Zdo
 case bjx=>exact Zak
 case' bjy=>refine' ZaI ?bjz ?bka ?bkb ?bkc ?bkd
 case bjz=>exact Zho
 case bka=>exact (by rfl)
 case bkb=>exact B.b_int
 case bkc=>exact Zev
 case bkd=>exact (Zir (Zfr Zbc (Zao (k_ix (K:=K) rfl) (pv 1) Zaa (fun _ _=>rfl)) Zaa (Zas _)) Zab)
 case bjv=>exact (k_bm (K:=K) rfl PySem.F.plainAttrs_str PySem.F.slot_str_join PySem.F.type_str_join (ZeU (K:=K) rfl) Zak (Zac (pv 2) Zab))
 case' bjs=>refine' Zar ?bke ?bkf ?bkg
 case bke=>exact Zdo
 case bkf=>exact Zak
 case' bkg=>refine' ZaI ?bkh ?bki ?bkj ?bkk ?bkl
 case bkh=>exact Zho
 case bki=>exact (by rfl)
 case bkj=>exact B.b_int
 case bkk=>exact Zev
 case bkl=>exact (Zir (Zfr Zbc (Zao (k_ix (K:=K) rfl) (pv 1) Zaa (fun _ _=>rfl)) Zaa (Zas _)) Zab)
 walk_at"rd"
 refine ⟨rfl,?_⟩
 walk_at"rd"
 refine Zc1 (c:=10) (by decide) (by lia) fun pl H1 n1 s1 e1=>?_
 have LS:=tb.lst
 have hlne:=ZbV t ⟨#[10]⟩
 generalize Txt.split t ⟨#[10]⟩=lines at LS hlne e1
 have hlc:=LS.cnt
 have hpos:0 < lines.length:=length_pos_iff.mpr hlne
 have pk1:=s1 _ _ hpk
 walk_at"rd"
 refine Zaj pk1 (v:=.int p1') (Zan (n:=1) rfl rfl) ?_
 walk_at"rd"
 refine Zbf (SqL.of e1) ?_
 rw [length_map]
 walk_at"rd"
 refine rd_I (by lia) ?_
 obtain ⟨a,ea,ha⟩:=Zkh p1' hpos
 rw [ea]
 have hln:=LS.all _ (getElem_mem ha)
 have egl:(lines.map V.str)[a]?=some (V.str lines[a]):=by rw [getElem?_map,getElem?_eq_getElem ha];rfl
 have hll:=hln.2.1
 walk_at"rd"
 refine Zaj e1 (v:=.str lines[a]) (Zan (n:=a) rfl egl) ?_
 refine ⟨rfl,?_⟩
 walk_at"rd"
 refine Zc1 (c:=32) (by decide) (by lia) fun ps H2 n2 s2 e2=>?_
 have W:=hln.words
 have hwne:=ZbV lines[a] ⟨#[32]⟩
 generalize Txt.split lines[a] ⟨#[32]⟩=ws at W hwne e2
 have hwc:=W.cnt
 walk_at"rd"
 refine Zaj (s2 _ _ pk1) (v:=.int p2) (Zan (n:=2) rfl rfl) ?_
 walk_at"rd"
 refine Zbf (SqL.of e2) ?_
 rw [length_map]
 walk_at"rd"
 refine rd_I (by lia) ?_
 obtain ⟨kk,ek,hk⟩:=Zkh p2 (show 0 < ws.length+1 by lia)
 rw [show ((ws.length:Int)+1)=((ws.length+1:Nat):Int) by lia,ek]
 walk_at"rd"
 walk_at"mk";intro pA n3
 have s3:=Same.new (o:=.lst (wA72.map V.str)) n3
 have e3:=Zad (H:=H2) (a:=pA) (o:=.lst (wA72.map V.str))
 change Zd2 6 (V.ref pA) _ (upd H2 pA (.lst (wA72.map V.str))) _
 generalize upd H2 pA (.lst (wA72.map V.str))=H3 at s3 e3
 walk_at"rd"
 refine Zdm (by decide) (by decide) (by decide) fun _=>?_
 have h7:Lin 301 (repS (Str.ofString "7") 300):=Zfy (by decide) (by decide) (by decide)
 generalize repS (Str.ofString "7") 300=r7 at h7
 walk_at"rd"
 refine Zdm (by decide) (by decide) (by decide) fun _=>?_
 have h9:Lin 302 (Str.ofString "-"++repS (Str.ofString "9") 300):=Zgw (m:=1) ⟨asc_mem.mpr (by decide),by decide,by decide⟩ (Zfy (by decide) (by decide) (by decide))
 refine ZaQ (ZaN (by have:=h9.2.1;rw [ZaC] at this;lia)) ?_
 generalize Str.ofString "-"++repS (Str.ofString "9") 300=r9 at h9
 walk_at"rd"
 refine Zdm (by decide) (by decide) (by decide) fun _=>?_
 have h1:Lin 301 (repS (Str.ofString "1") 301):=Zfy (by decide) (by decide) (by decide)
 generalize repS (Str.ofString "1") 301=r1 at h1
 walk_at"rd"
 walk_at"mk";intro pB n4
 have s4:=Same.new (o:=.lst ((wB72++[r7,r9,r1]).map V.str)) n4
 have e4:=Zad (H:=H3) (a:=pB) (o:=.lst ((wB72++[r7,r9,r1]).map V.str))
 change rCat (V.ref pA) (V.ref pB) (upd H3 pB (.lst ((wB72++[r7,r9,r1]).map V.str))) _
 generalize upd H3 pB (.lst ((wB72++[r7,r9,r1]).map V.str))=H4 at s4 e4
 refine Zgp (s4 _ _ e3) e4 (show 9+9<=1000000 by decide) fun pC H5 n5 s5 e5=>?_
 have s25:=(s3.trans s4).trans s5
 have n5':H2 pC=none:=(s3.trans s4).free n5
 walk_at"rd"
 refine ⟨.inl ⟨rfl,_,SqL.of e5⟩,?_⟩
 walk_at"rd"
 refine Zdm (by decide) (by decide) (by decide) fun _=>?_
 have h8:Lin 303 (Str.ofString "0;"++repS (Str.ofString "8") 300):=Zgw (m:=2) ⟨asc_mem.mpr (by decide),by decide,by decide⟩ (Zfy (by decide) (by decide) (by decide))
 refine ZaQ (ZaN (by have:=h8.2.1;rw [ZaC] at this;lia)) ?_
 generalize Str.ofString "0;"++repS (Str.ofString "8") 300=r8 at h8
 walk_at"rd"
 have h8':Lin 304 (r8++Str.ofString ":"):=Zgw (n:=1) h8 ⟨asc_mem.mpr (by decide),by decide,by decide⟩
 refine ZaQ (ZaN (by have:=h8'.2.1;rw [ZaC] at this;lia)) ?_
 generalize r8++Str.ofString ":"=r8' at h8'
 walk_at"rd"
 have pk5:=s25 _ _ (s2 _ _ pk1)
 refine Zaj pk5 (v:=.int p2) (Zan (n:=2) rfl rfl) ?_
 walk_at"rd"
 refine rd_I (by decide) ?_
 walk_at"rd"
 obtain ⟨m2,em2,hm2⟩:∃ m:Nat,300+p2 % 2=m/\m<=301:=⟨(300+p2 % 2).toNat,by lia,by lia⟩
 rw [em2]
 refine Zdm (by lia) (by lia) (by decide) fun _=>?_
 have h4:Lin 605 (r8'++repS (Str.ofString "4") (m2:Int)):=Zgw h8' (Zfy (by decide) (by decide) (by lia))
 refine ZaQ (ZaN (by have:=h4.2.1;rw [ZaC] at this;lia)) ?_
 generalize r8'++repS (Str.ofString "4") (m2:Int)=r4 at h4
 walk_at"rd"
 refine ZaV e5 (by rw [PySem.sizeLine_eq];show 18 < _;decide) ?_
 obtain ⟨wds,ew,hwl,hwA⟩:∃ wds:List Str,List.map V.str (wA72++(wB72++[r7,r9,r1]))++[V.str r4]=wds.map V.str/\wds.length=19/\∀ z∈wds,Lin 605 z:=by
  refine ⟨(wA72++wB72)++[r7,r9,r1,r4],by rw [append_assoc];rfl,rfl,fun z hz=>?_⟩
  rcases mem_append.mp hz with hz|hz
  ·obtain ⟨x1,x2,x3⟩:=w72_ok z hz
   exact ⟨asc_mem.mpr x1,by lia,x3⟩
  ·simp only [mem_cons,not_mem_nil,or_false] at hz
   rcases hz with rfl|rfl|rfl|rfl
   ·exact h7.up (by decide)
   ·exact h9.up (by decide)
   ·exact h1.up (by decide)
   ·exact h4
 rw [ew]
 have s26:Same H2 (upd H5 pC (.lst (wds.map V.str))):=s25.wrF n5'
 have e6:upd H5 pC (.lst (wds.map V.str)) pC=some (.lst (wds.map V.str)):=Zad
 generalize upd H5 pC (.lst (wds.map V.str))=H6 at s26 e6
 have s16:=s2.trans s26
 clear e5 s5 s4 s3 e4 e3 n3 n4 h1 h4 h7 h8 h8' h9 em2 ew pk5 n5 s25
 have h3:p3.toNat < wds.length:=by lia
 have egw:(wds.map V.str)[p3.toNat]?=some (V.str wds[p3.toNat]):=by rw [getElem?_map,getElem?_eq_getElem h3];rfl
 have hw:=hwA _ (getElem_mem h3)
 generalize wds[p3.toNat]=wd at hw egw
 have npC:pC≠pl:=fun z=>by rw [z,s2 _ _ e1] at n5';cases n5'
 have I0:BI t pk pl ps pC a kk wds lines ws H L F M p0 4 [some (.str t),some (.ref pk),some (.ref pl),some (.int a),some (.ref ps),some (.int kk),some (.ref pC),none,none] H6:=⟨pl,lines,none,none,rfl,s16 _ _ e1,LS.up (by lia) (by lia) (by lia),fun _=>⟨rfl,rfl⟩,s1.trans s16,s26 _ _ e2,e6⟩
 have nps:ps≠pl:=fun z=>by rw [z,e1] at n2;cases n2
 have go:∀ {σ':St} {H':Hp} (m:Int) {n:Int},BI t pk pl ps pC a kk wds lines ws H L F M p0 n σ' H'->n < m->¬ p0=m->BI t pk pl ps pC a kk wds lines ws H L F M p0 m σ' H':=fun m n ⟨p,ls,c7,c8,e,g1,g2,g3,g4,g5,g6⟩ h1 h2=>⟨p,ls,c7,c8,e,g1,g2,fun z=>g3 (by lia),g4,g5,g6⟩
 have wat:∀ {H':Hp} {R:VK},H' pk=some (.lst [.int p0,.int p1',.int p2,.int p3])->H' pC=some (.lst (wds.map V.str))->R (.str wd) H'->rIxA K (.ref pk) (.int 3) H' fun y H2=>rIxA K (.ref pC) y H2 R:=fun x1 x2 h=>Zaj x1 (v:=.int p3) (Zan (n:=3) rfl rfl) (Zaj x2 (v:=.str wd) (Zan (n:=p3.toNat) (by lia) egw) h)
 refine Zfk ?_
 try dsimp +zetaDelta only
 change tSeq _ _ _ [some (.str t),some (.ref pk),some (.ref pl),some (.int a),some (.ref ps),some (.int kk),some (.ref pC),none,none] H6
 revert I0
 generalize [some (V.str t),some (.ref pk),some (.ref pl),some (.int a),some (.ref ps),some (.int kk),some (.ref pC),none,none]=σ4
 generalize H6=H6'
 intro I4
 refine Zbz (BI t pk pl ps pC a kk wds lines ws H L F M p0 5) (fun N hN=>?_) fun σ5 H5 I5=>?_
 ·obtain ⟨p,ls,c7,c8,rfl,g1,g2,g3,g4,g5,g6⟩:=I4
  refine ZeS rfl (g4 _ _ hpk) (fun e=>?_) fun e=>hN _ _ (go 5 ⟨p,ls,c7,c8,rfl,g1,g2,g3,g4,g5,g6⟩ (by decide) e)
  obtain ⟨rfl,rfl⟩:=g3 (by lia)
  refine ZhH g1 (by lia) rfl (show (a:Int)+1=((a+1:Nat):Int) by lia) (fun h=>⟨_,rfl,h⟩) (fun h=>⟨_,rfl,h⟩) (fun h=>⟨_,rfl,rd_c (ZjP h)⟩) fun q H7 s7 e7=>?_
  exact hN _ _ ⟨q,_,c7,c8,rfl,e7,g2.cut (Nat.le_succ a),fun z=>absurd z (by lia),g4.trans s7,s7 _ _ g5,s7 _ _ g6⟩
 refine Zbz (BI t pk pl ps pC a kk wds lines ws H L F M p0 6) (fun N hN=>?_) fun σ6 H6 I6=>?_
 ·obtain ⟨p,ls,c7,c8,rfl,g1,g2,g3,g4,g5,g6⟩:=I5
  refine ZeS rfl (g4 _ _ hpk) (fun e=>?_) fun e=>hN _ _ (go 6 ⟨p,ls,c7,c8,rfl,g1,g2,g3,g4,g5,g6⟩ (by decide) e)
  obtain ⟨rfl,rfl⟩:=g3 (by lia)
  refine Zf3 (ZhH g1 (by lia) rfl (show (a:Int)+1=((a+1:Nat):Int) by lia) (fun h=>⟨_,rfl,h⟩) (fun h=>⟨_,rfl,h⟩) (fun h=>⟨_,rfl,rd_c (ZjP h)⟩) fun q H7 s7 e7=>?_)
  refine Zcc (Zf3 ?_)
  walk_at"rd"
  refine Zaj ((g4.trans s7) _ _ hpk) (v:=.int p2) (Zan (n:=2) rfl rfl) ?_
  walk_at"rd"
  refine Zbf (SqL.of (s7 _ _ g1)) ?_
  rw [length_map]
  refine rd_I (by lia) ?_
  obtain ⟨o,eo,ho⟩:=Zkh p2 hpos
  rw [eo]
  refine Zcc ?_
  try dsimp +zetaDelta only
  have hc:=LS.cut (show a<=a+1 by lia)
  have hcl:=hc.cnt
  refine ZeF (xs:=[ls[a]]) e7 (by simp only [length_cons,length_nil];lia) rfl rfl (fun h=>⟨_,rfl,h⟩) (fun h=>⟨_,rfl,h⟩) (fun h=>⟨_,rfl,h⟩) (fun s hq=>Zfm (z:=ls[a]) (fun h=>⟨_,rfl,⟨_,rfl,Zaj ((s7.trans s) _ _ g1) (v:=.str ls[a]) (Zan (n:=a) rfl egl) h⟩⟩) hq) fun q8 H8 s8 e8=>?_
  exact hN _ _ ⟨q8,_,some (.ref q),some (.int o),rfl,e8,((LS.up (M':=M+900) (Nat.le_refl _) (Nat.le_refl _) (by lia)).cut (Nat.le_succ a)).ins (Nat.le_refl o) (LSt.one (hln.up (by lia)) hll) |>.up (by lia) (by lia) (Nat.le_refl _),fun z=>absurd z (by lia),(g4.trans s7).trans s8,s8 _ _ (s7 _ _ g5),s8 _ _ (s7 _ _ g6)⟩
 refine Zbz (BI t pk pl ps pC a kk wds lines ws H L F M p0 7) (fun N hN=>?_) fun σ7 H7 I7=>?_
 ·obtain ⟨p,ls,c7,c8,rfl,g1,g2,g3,g4,g5,g6⟩:=I6
  refine ZeS rfl (g4 _ _ hpk) (fun e=>?_) fun e=>hN _ _ (go 7 ⟨p,ls,c7,c8,rfl,g1,g2,g3,g4,g5,g6⟩ (by decide) e)
  obtain ⟨rfl,rfl⟩:=g3 (by lia)
  refine ZeF (xs:=[ls[a]]) g1 (by simp only [length_cons,length_nil];lia) rfl rfl (fun h=>⟨_,rfl,h⟩) (fun h=>⟨_,rfl,h⟩) (fun h=>⟨_,rfl,h⟩) (fun s hq=>Zfm (z:=ls[a]) (fun h=>⟨_,rfl,⟨_,rfl,Zaj (s _ _ g1) (v:=.str ls[a]) (Zan (n:=a) rfl egl) h⟩⟩) hq) fun q8 H8 s8 e8=>?_
  exact hN _ _ ⟨q8,_,c7,c8,rfl,e8,((LS.up (M':=M+900) (Nat.le_refl _) (Nat.le_refl _) (by lia)).ins (Nat.le_refl a) (LSt.one (hln.up (by lia)) hll)).up (by lia) (by lia) (Nat.le_refl _),fun z=>absurd z (by lia),g4.trans s8,s8 _ _ g5,s8 _ _ g6⟩
 refine Zbz (BI t pk pl ps pC a kk wds lines ws H L F M p0 8) (fun N hN=>?_) fun σ8 H8 I8=>?_
 ·obtain ⟨p,ls,c7,c8,rfl,g1,g2,g3,g4,g5,g6⟩:=I7
  refine ZeS rfl (g4 _ _ hpk) (fun e=>?_) fun e=>hN _ _ (go 8 ⟨p,ls,c7,c8,rfl,g1,g2,g3,g4,g5,g6⟩ (by decide) e)
  obtain ⟨rfl,rfl⟩:=g3 (by lia)
  have W8:LSt (M+607) (M+2) (M+605) (ws.take kk++[wd]++ws.drop kk):=((W.up (M':=M+605) (Nat.le_refl _) (Nat.le_refl _) (by lia)).ins (Nat.le_refl kk) (LSt.one (hw.up (N:=M+605) (by lia)) hw.2.1)).up (by lia) (by lia) (Nat.le_refl _)
  have z8:=W8.sz
  have l8:=LSt.line (N:=M+606) W8
  refine Zgo (ls:=ws.take kk++[wd]++ws.drop kk) (fun h=>ZeF (xs:=[wd]) g5 (by simp only [length_cons,length_nil];lia) rfl rfl (fun h=>⟨_,rfl,h⟩) (fun h=>⟨_,rfl,h⟩) (fun h=>⟨_,rfl,h⟩) (fun s hq=>Zfm (z:=wd) (fun h=>⟨_,rfl,⟨_,rfl,wat ((g4.trans s) _ _ hpk) (s _ _ g6) h⟩⟩) hq) h) (by lia) fun H8 s8=>?_
  generalize Str.join ⟨#[32]⟩ (ws.take kk++[wd]++ws.drop kk)=nl at l8
  refine ⟨_,rfl,⟨_,rfl,Zcy (k:=a) (s8 _ _ g1) (by rw [length_map];exact ZkB rfl ha) ?_⟩⟩
  exact hN _ _ ⟨p,ls.set a nl,c7,c8,rfl,by rw [Zad,map_set],((LS.up (M':=M+900) (Nat.le_refl _) (Nat.le_refl _) (by lia)).set (m:=M+606) (l8.up (by lia)) l8.2.1).up (by lia) (by lia) (Nat.le_refl _),fun z=>absurd z (by lia),(g4.trans s8).wrF n1,by rw [Zat nps];exact s8 _ _ g5,by rw [Zat npC];exact s8 _ _ g6⟩
 refine Zbz (BI t pk pl ps pC a kk wds lines ws H L F M p0 9) (fun N hN=>?_) fun σ9 H9 I9=>?_
 ·obtain ⟨p,ls,c7,c8,rfl,g1,g2,g3,g4,g5,g6⟩:=I8
  refine ZeS rfl (g4 _ _ hpk) (fun e=>?_) fun e=>hN _ _ (go 9 ⟨p,ls,c7,c8,rfl,g1,g2,g3,g4,g5,g6⟩ (by decide) e)
  obtain ⟨rfl,rfl⟩:=g3 (by lia)
  have W8:LSt (M+607) (M+2) (M+605) (ws.take kk++ws.drop (kk+1)):=((W.up (M':=M+605) (Nat.le_refl _) (Nat.le_refl _) (by lia)).cut (Nat.le_succ kk)).up (by lia) (by lia) (Nat.le_refl _)
  have z8:=W8.sz
  have l8:=LSt.line (N:=M+606) W8
  refine Zgo (ls:=ws.take kk++ws.drop (kk+1)) (fun h=>ZhH g5 (by lia) rfl (show (kk:Int)+1=((kk+1:Nat):Int) by lia) (fun h=>⟨_,rfl,h⟩) (fun h=>⟨_,rfl,h⟩) (fun h=>⟨_,rfl,rd_c (ZjP h)⟩) h) (by lia) fun H8 s8=>?_
  generalize Str.join ⟨#[32]⟩ (ws.take kk++ws.drop (kk+1))=nl at l8
  refine ⟨_,rfl,⟨_,rfl,Zcy (k:=a) (s8 _ _ g1) (by rw [length_map];exact ZkB rfl ha) ?_⟩⟩
  exact hN _ _ ⟨p,ls.set a nl,c7,c8,rfl,by rw [Zad,map_set],((LS.up (M':=M+900) (Nat.le_refl _) (Nat.le_refl _) (by lia)).set (m:=M+606) (l8.up (by lia)) l8.2.1).up (by lia) (by lia) (Nat.le_refl _),fun z=>absurd z (by lia),(g4.trans s8).wrF n1,by rw [Zat nps];exact s8 _ _ g5,by rw [Zat npC];exact s8 _ _ g6⟩
 refine Zbz (BI t pk pl ps pC a kk wds lines ws H L F M p0 10) (fun N hN=>?_) fun σ10 H10 I10=>?_
 ·obtain ⟨p,ls,c7,c8,rfl,g1,g2,g3,g4,g5,g6⟩:=I9
  refine ZeS rfl (g4 _ _ hpk) (fun e=>?_) fun e=>hN _ _ (go 10 ⟨p,ls,c7,c8,rfl,g1,g2,g3,g4,g5,g6⟩ (by decide) e)
  obtain ⟨rfl,rfl⟩:=g3 (by lia)
  have W8:LSt (M+607) (M+2) (M+605) (ws.take kk++[wd]++ws.drop (kk+1)):=((W.up (M':=M+605) (Nat.le_refl _) (Nat.le_refl _) (by lia)).ins (Nat.le_succ kk) (LSt.one (hw.up (N:=M+605) (by lia)) hw.2.1)).up (by lia) (by lia) (Nat.le_refl _)
  have z8:=W8.sz
  have l8:=LSt.line (N:=M+606) W8
  refine Zgo (ls:=ws.take kk++[wd]++ws.drop (kk+1)) (fun h=>ZeF (xs:=[wd]) g5 (by simp only [length_cons,length_nil];lia) rfl (show (kk:Int)+1=((kk+1:Nat):Int) by lia) (fun h=>⟨_,rfl,h⟩) (fun h=>⟨_,rfl,h⟩) (fun h=>⟨_,rfl,rd_c (ZjP h)⟩) (fun s hq=>Zfm (z:=wd) (fun h=>⟨_,rfl,⟨_,rfl,wat ((g4.trans s) _ _ hpk) (s _ _ g6) h⟩⟩) hq) h) (by lia) fun H8 s8=>?_
  generalize Str.join ⟨#[32]⟩ (ws.take kk++[wd]++ws.drop (kk+1))=nl at l8
  refine ⟨_,rfl,⟨_,rfl,Zcy (k:=a) (s8 _ _ g1) (by rw [length_map];exact ZkB rfl ha) ?_⟩⟩
  exact hN _ _ ⟨p,ls.set a nl,c7,c8,rfl,by rw [Zad,map_set],((LS.up (M':=M+900) (Nat.le_refl _) (Nat.le_refl _) (by lia)).set (m:=M+606) (l8.up (by lia)) l8.2.1).up (by lia) (by lia) (Nat.le_refl _),fun z=>absurd z (by lia),(g4.trans s8).wrF n1,by rw [Zat nps];exact s8 _ _ g5,by rw [Zat npC];exact s8 _ _ g6⟩
 refine Zbz (BI t pk pl ps pC a kk wds lines ws H L F M p0 13) (fun N hN=>?_) fun σ11 H11 I11=>?_
 ·obtain ⟨p,ls,c7,c8,rfl,g1,g2,g3,g4,g5,g6⟩:=I10
  refine ZeS rfl (g4 _ _ hpk) (fun e=>?_) fun e=>hN _ _ (go 13 ⟨p,ls,c7,c8,rfl,g1,g2,g3,g4,g5,g6⟩ (by decide) e)
  obtain ⟨rfl,rfl⟩:=g3 (by lia)
  refine ZeF (xs:=[wd]) g1 (by simp only [length_cons,length_nil];lia) rfl rfl (fun h=>⟨_,rfl,h⟩) (fun h=>⟨_,rfl,h⟩) (fun h=>⟨_,rfl,h⟩) (fun s hq=>Zfm (z:=wd) (fun h=>⟨_,rfl,⟨_,rfl,wat ((g4.trans s) _ _ hpk) (s _ _ g6) h⟩⟩) hq) fun q8 H8 s8 e8=>?_
  exact hN _ _ ⟨q8,_,c7,c8,rfl,e8,((LS.up (M':=M+900) (Nat.le_refl _) (Nat.le_refl _) (by lia)).ins (Nat.le_refl a) (LSt.one (hw.up (by lia)) hw.2.1)).up (by lia) (by lia) (Nat.le_refl _),fun z=>absurd z (by lia),g4.trans s8,s8 _ _ g5,s8 _ _ g6⟩
 refine Zbz (BI t pk pl ps pC a kk wds lines ws H L F M p0 14) (fun N hN=>?_) fun σ12 H12 I12=>?_
 ·obtain ⟨p,ls,c7,c8,rfl,g1,g2,g3,g4,g5,g6⟩:=I11
  refine ZeS rfl (g4 _ _ hpk) (fun e=>?_) fun e=>hN _ _ (go 14 ⟨p,ls,c7,c8,rfl,g1,g2,g3,g4,g5,g6⟩ (by decide) e)
  obtain ⟨rfl,rfl⟩:=g3 (by lia)
  obtain ⟨m,em,hm⟩:∃ m:Nat,1+p2=m/\m<=64:=⟨(1+p2).toNat,by lia,by lia⟩
  have L2m:=Zjh M m
  have l2c:=L2m.cnt
  generalize hX:(List.replicate m (["stand 0","leave"]:List Str)).flatten=X2 at L2m l2c
  refine ZeF (xs:=X2) g1 (by lia) rfl rfl (fun h=>⟨_,rfl,h⟩) (fun h=>⟨_,rfl,h⟩) (fun h=>⟨_,rfl,h⟩) (fun s hq=>?_) fun q8 H8 s8 e8=>?_
  ·walk_at"rd"
   walk_at"mk";intro q1 n1'
   walk_at"rd"
   have t1:=Same.new (o:=.lst [V.str "stand 0",V.str "leave"]) n1'
   refine Zaj ((g4.trans s).trans t1 _ _ hpk) (v:=.int p2) (Zan (n:=2) rfl rfl) ?_
   walk_at"rd"
   refine Zlq (m:=m) Zad em (by lia) fun m1 G2 t2 u2=>hq _ _ (t1.trans t2) (by rw [<-hX];exact u2)
  exact hN _ _ ⟨q8,_,c7,c8,rfl,e8,((LS.up (M':=M+900) (Nat.le_refl _) (Nat.le_refl _) (by lia)).ins (Nat.le_refl a) L2m).up (by lia) (by lia) (Nat.le_refl _),fun z=>absurd z (by lia),g4.trans s8,s8 _ _ g5,s8 _ _ g6⟩
 obtain ⟨p,ls,c7,c8,rfl,g1,g2,g3,g4,g5,g6⟩:=I12
 have gz:=g2.sz
 have pk11:=g4 _ _ hpk
 walk_at"rd"
 refine Zaj pk11 (v:=.int p0) (Zan (n:=0) rfl rfl) ?_
 walk_at"rd"
 refine Zdm (by split <;> decide) (by split <;> decide) (by decide) fun _=>?_
 refine ⟨rfl,?_⟩
 walk_at"rd"
 refine ZeD (zs:=ls) (SqL.of g1) (by decide) (by lia) ?_
 rw [show Str.ofString "\n"=(⟨#[10]⟩:Str) from by decide]
 have f1:=Zih (y:=⟨#[10]⟩) rfl (decide (p0=11))
 have T1:=LSt.tb (N:=L+M+1899) (F:=F+128) g2
 generalize Str.join ⟨#[10]⟩ ls=tx at T1
 have tl1:=T1.len
 have r1:∀ {y:Str},y=Str.empty\/y=⟨#[10]⟩->y.length<=1:=fun h=>by rcases h with rfl|rfl <;> decide
 have r11:=r1 f1
 refine ZaQ (ZaN (by lia)) ?_
 walk_at"rd"
 refine Zaj pk11 (v:=.int p0) (Zan (n:=0) rfl rfl) ?_
 walk_at"rd"
 refine Zdm (by split <;> decide) (by split <;> decide) (by decide) fun _=>?_
 have f2:=Zih (y:=⟨#[10]⟩) rfl (decide (p0=12))
 have r12:=r1 f2
 refine ZaQ (ZaN (by rw [ZaC];lia)) ?_
 exact k _ _ (TB.up (T1.feeds f1 f2) (by unfold upL;lia) (by lia) (by lia)) g4
theorem sc__law_spoilt:FnScope ["text","pick","bag"] ["text","pick","bag"] (Zam Zcr):=⟨rfl,rfl,rfl,by decide +kernel,rfl,by decide +kernel,by decide +kernel⟩
theorem ZgO (B:Blt mg) (T__law_spoilt:TopFn K mg "_law_spoilt" Zcr ["text","pick","bag"]) (ZcH:Callee P w K mg base "_law_bent_text" 4 ["text","pick","bag"] ZeQ) (ZcG:Callee P w K mg base "_law_each_line" 4 ["text","pick","bag"] Zgl) (Zcn:Callee P w K mg base "_law_bent_lines" 1 ["text","pick"] Zec):Callee P w K mg base "_law_spoilt" 5 ["text","pick","bag"] Zgl:=by
 refine T__law_spoilt.ok3 sc__law_spoilt fun f cdv A outer s H v1 v2 v3 Q E hr h=>?_
 have nd:=sc__law_spoilt.nd
 obtain ⟨t,L,F,M,pk,p0,p1,p2,p3,b,l,rfl,tb,ok,rfl,hpk,npk,rfl,Bg,hp2,hp3,k⟩:=h
 have hL:=ok.l
 have hF:=ok.f
 have hM:=ok.m
 have tl:=tb.len
 refine' Zbl [some (.str t),some (.ref pk),some (.ref b)] rfl ?hb ?hg
 case' hb=>refine' Zae ?bab ?bac
 case' bab=>refine' Za1 ?bad ?bae ?baf
 case bad=>exact (Zal ZlU (Zao (k_ix (K:=K) rfl) (pv 1) Zaa (fun _ _=>rfl)) Zaa (Zas _))
 case bae=>exact (Zag (ZaD (Za7 ZcH (hr.mono (by first|decide|lia)) (by rfl) (Zac (pv 0) (Zac (pv 1) (Zac (pv 2) Zab))))))
 case baf=>exact Zaz
 case' bac=>refine' Zae ?bag ?bah
 case' bag=>refine' Za1 ?bai ?baj ?bak
 case bai=>exact (Zal Zbc (Zao (k_ix (K:=K) rfl) (pv 1) Zaa (fun _ _=>rfl)) Zaa (Zas _))
 case baj=>exact (Zag (ZaD (Za7 ZcG (hr.mono (by first|decide|lia)) (by rfl) (Zac (pv 0) (Zac (pv 1) (Zac (pv 2) Zab))))))
 case bak=>exact Zaz
 case bah=>exact (Zag (ZaD (Za7 Zcn (hr.mono (by first|decide|lia)) (by rfl) (Zac (pv 0) (Zac (pv 1) Zab)))))
 walk_at"rd"
 refine Zaj hpk (v:=.int p0) (Zan (n:=0) rfl rfl) ?_
 walk_at"rd"
 refine ZaS (fun _=>?_) (fun _=>?_)
 ·walk_at"rd"
  refine use3 ⟨t,L,pk,p0,p1,p2,_,b,l,rfl,tb.asc,tl,by lia,rfl,hpk,npk,rfl,Bg,fun t' H' ⟨i,j,r,e,hr,ha⟩ hl B' b'=>?_⟩
  exact k _ _ (TB.up (tb.put hr ha e hl) (by unfold upL;lia) (by lia) (by lia)) B' b'
 ·walk_at"rd"
  refine Zaj hpk (v:=.int p0) (Zan (n:=0) rfl rfl) ?_
  walk_at"rd"
  refine ZaS (fun _=>?_) (fun _=>?_)
  ·walk_at"rd"
   exact use3 ⟨t,L,F,M,pk,p0,p1,p2,p3,b,l,rfl,tb,ok,rfl,hpk,npk,rfl,Bg,hp2,hp3,k⟩
  ·walk_at"rd"
   exact use2 ⟨t,L,F,M,pk,p0,p1,p2,p3,rfl,tb,ok,rfl,hpk,hp2,hp3,fun t' H' h' s'=>k t' H' h' (Bg.mono s') (BSame.of s')⟩
noncomputable def valV (o:Option Int):V:=match o with
 | none=>.non
 | some n=>.int n
inductive Pr_value (x y:V) (H:Hp) (Q:VK):Prop
 | mk (z most) (_:x=.str z) (_:y=.int (most:Nat)) (_:most<=600) (_:z.length<=900000) (_:Zbd z) (_:∀ H',Same H H'->Q (valV (ZaF most z)) H'):Pr_value x y H Q
noncomputable def Zgk:Sp:=sp2 (Pr_value)
theorem Zfw (z : Str) (hz : z.length <= 900000) : Txt.slice z none (some 1) = Str.ofString "-" ↔ (cs z).head? = some 45 := by
  have hl := Za0 z
  cases hc : cs z with
  | nil =>
    constructor
    · intro h
      have h2 := Zif (z := z) (l := none) (u := some 1) (k := 0) (Nat.le_trans (sliceIndices_le none (some 1) z.length) (by rw [hc] at hl; simp at hl; lia))
      rw [h] at h2
      exact absurd h2 (by decide)
    · intro h; cases h
  | cons c r =>
    have hlen : 1 <= z.length := by rw [hc] at hl; simp at hl; lia
    have e : cs (Txt.slice z none (some 1)) = [c] := by
      have := PyProof.Rows.slice_closes_to (x := z) (j := 1) ⟨by decide, by have : z.cps.toList.length = z.length := hl; lia⟩
      rw [beq_iff_eq.mp this]
      show ((z.cps.toList.drop 0).take 1) = [c]
      rw [show z.cps.toList = c :: r from hc]
      rfl
    constructor
    · intro h
      have h2 := congrArg cs h
      rw [e] at h2
      have h3 : [c] = [45] := h2.trans (by decide)
      rw [(List.cons.inj h3).1]
      rfl
    · intro h
      cases h
      exact Zet (by rw [e]; decide)
theorem sc__law_value:FnScope ["text","most","figures"] ["text","most"] (Zam ZcO):=⟨rfl,rfl,rfl,by decide +kernel,rfl,by decide +kernel,by decide +kernel⟩
theorem Zht (B : Blt mg) (T__law_value : TopFn K mg "_law_value" ZcO ["text", "most"]) : Callee P w K mg base "_law_value" 1 ["text", "most"] Zgk := by
  refine T__law_value.ok2 sc__law_value fun f cdv A outer s H v1 v2 Q E hr h => ?_
  have nd := sc__law_value.nd
  have hu := hr.units
  obtain ⟨z, most, rfl, rfl, hm, hz, az, k⟩ := h
  have hl := Za0 z
  refine' Zbl [some (.str z), some (.int (most : Nat)), none] rfl ?hb ?hg
  case' hb => refine' Zae ?bab ?bac
  case bab => exact (Zc2 (i := 2) nd rfl (Or.inl rfl) (pv 0))
  case' bac => refine' Zae ?bad ?bae
  case' bad => refine' Za1 ?baf ?bag ?bah
  case baf => exact (Zal Zbc (Zau Zdz (pv 0) ZaG (ZaB Zaa)) Zak (Zas _))
  case bag => exact (Zag (Zfo (i := 2) nd rfl (Or.inl rfl) (Zau Zdz (pv 0) (ZaB Zaa) ZaG)))
  case bah => exact Zaz
  case' bae => refine' Zae ?bai ?baj
  case' bai => refine' Za1 ?bak ?bal ?bam
  case' bak => refine' PW.pt ?ban
  case' ban => refine' ZeZ ?bao ?bap
  case bao => exact (Zal Zbc (pv 2) Zak (Zas _))
  case' bap => refine' ZeZ ?baq ?bar
  case baq => exact (Zal ZnT (Zaw (Zcu (K := K) rfl) (by rfl) B.b_len ZbA (Zac (pv 2) Zab)) (pv 1) (Zas _))
  case' bar => refine' Zeg ?bas
  case' bas => refine' Zal ?bat ?bau ?bav ?baw
  case bat => exact (k_neL (K := K) rfl hu)
  case' bau => refine' ZdH (LN := ["sign"]) (FN := []) (fr := []) ?bax ?bay ?baz ?bba ?bbb ?bbc
  case bax => exact rfl
  case bay => exact (ZdO (by rfl))
  case baz => exact (Ziy (K := K) rfl (pv 2))
  case' bba => intro cl C fp pins s H
  case bba => exact (ZaE (i := 0) (show ((["sign"] : List Str) ++ ([] : List Str)).Nodup by decide +kernel) rfl (Or.inl rfl))
  case' bbb => intro cl C fp pins s H
  case bbb => exact (ZhI (Zal Zj8 (pv 0) Zak (by with_unfolding_all rfl)))
  case' bbc => intro cl C fp pins s H
  case bbc => exact (pv 0)
  case bav => exact (Zba Zab)
  case baw => exact (Zas _)
  case bal => exact (Zag (ZaD ZbZ))
  case bam => exact Zaz
  case' baj => refine' Zae ?bbd ?bbe
  case' bbd => refine' Za1 ?bbf ?bbg ?bbh
  case' bbf => refine' PW.pt ?bbi
  case' bbi => refine' ZcP ?bbj ?bbk
  case bbj => exact (Zal Zbc (Zao Zhd (pv 2) Zaa (fun _ _ => rfl)) Zak (Zas _))
  case bbk => exact (ZbX (Zal ZnT (Zaw (Zcu (K := K) rfl) (by rfl) B.b_len ZbA (Zac (pv 0) Zab)) Zaa (Zas _)))
  case bbg => exact (Zag (ZaD ZbZ))
  case bbh => exact Zaz
  case bbe => exact (Zag (ZaD (ZaI ZdN (by rfl) B.b_int Zev (Zac (pv 0) Zab))))
  refine Zf3 ?_
  refine Zio ?_
  walk_at"rd1"
  refine Zcc ?_
  try dsimp +zetaDelta only
  refine Zfl (fun σ Hx => ∃ fz : Str, An4 (σ = [some (.str z), some (.int (most : Nat)), some (.str fz)]) (cs fz = figT z) (Zbd fz) (Hx = H)) ?_ fun N hN => ?_
  rotate_left
  · walk_at"rd"
    refine ZjF (by lia) fun _ => ?_
    walk_at"rd"
    refine ZaS (fun hd => ?_) (fun hd => ?_)
    · have hd' := (Zfw z hz).mp hd
      have h1 : 1 <= z.length := by
        rw [<- hl]
        cases ez : cs z with
        | nil => rw [ez] at hd'; cases hd'
        | cons c r => simp
      walk_at"rd"
      refine ZjF (by lia) fun _ => ?_
      walk_at"rd"
      refine hN _ _ ⟨_, rfl, ?_, Zk6 az, rfl⟩
      rw [Zjv z h1]
      unfold figT
      rw [if_pos hd']
    · walk_at"rd"
      refine hN _ _ ⟨z, rfl, ?_, az, rfl⟩
      unfold figT
      rw [if_neg fun e => hd ((Zfw z hz).mpr e)]
  rintro σ Hx ⟨fz, rfl, ef, af, rfl⟩
  have hfl := Za0 fz
  have hfz : fz.length <= 900000 := by
    rw [<- hfl, ef]
    unfold figT
    split
    · rw [length_drop]; lia
    · lia
  have no : ∀ H', ¬ ((1 <= (figT z).length /\ (figT z).length <= most) /\ (figT z).all Zb5 = true) -> Same Hx H' -> Q .non H' := fun H' h s' => by
    have := k H' s'
    rw [show ZaF most z = none by unfold ZaF; rw [if_neg h]] at this
    exact this
  have yes : ∀ {v : V} {H' : Hp}, v = valV (ZaF most z) -> Same Hx H' -> Q v H' := fun {v H'} e s' => by rw [e]; exact k H' s'
  walk_at"rd"
  refine ZaS (fun h1 => ?_) (fun h1 => ?_)
  · walk_at"rd"
    refine no _ (fun h => ?_) (Same.refl _)
    rw [<- ef, h1] at h
    exact absurd h.1.1 (by decide)
  have hf1 : 1 <= (figT z).length := by
    rw [<- ef]
    cases e : cs fz with
    | nil => exact absurd (Zet (by rw [e]; decide)) h1
    | cons c r => simp
  walk_at"rd"
  refine Zef (ZaN (by lia)) ?_
  walk_at"rd"
  refine ZaS (fun h2 => ?_) (fun h2 => ?_)
  · walk_at"rd"
    refine no _ (fun h => ?_) (Same.refl _)
    rw [<- ef, hfl] at h
    lia
  walk_at"rd"
  refine ZjI ?_
  walk_at"rd"
  refine ⟨fz, rfl, af, ?_⟩
  refine ZmU (ZaN (by show fz.length <= _; lia)) (fun i ys σ Hy => An3 (∃ x1, σ = [x1]) (Hy = Hx) (∃ ms : List Nat, ys = ms.map (fun c : Nat => V.str ⟨#[c]⟩) /\ ms = ((cs fz).take i).filter fun c => !Zb5 c)) ⟨⟨none, rfl⟩, rfl, [], rfl, rfl⟩ ?_ ?_
  · rintro i c ys σ Hy hc hle hlt ⟨⟨x1, rfl⟩, rfl, ms, rfl, rfl⟩
    have hc' : (cs fz)[i]? = some c := by rw [Array.getElem?_toList]; exact hc
    have hfig : Zb5 c = decide (c ∈ (Str.ofString "0123456789").cps.toList) := ZmQ c
    walk_at"rd"
    refine ZiS ?_
    walk_at"rd"
    rw [<- hfig]
    cases hb : Zb5 c with
    | false =>
      walk_at"rd"
      refine ⟨hlt, by simpa using hle, ⟨_, rfl⟩, rfl, _, ?_, rfl⟩
      rw [take_add_one, hc']
      simp [hb]
    | true =>
      walk_at"rd"
      refine ⟨by simpa using Nat.le_succ_of_le hle, ⟨_, rfl⟩, rfl, _, ?_, rfl⟩
      rw [take_add_one, hc']
      simp [hb]
  rintro ys σ Hy hyy ⟨⟨x1, rfl⟩, rfl, ms, rfl, hms⟩ p hp
  clear hyy
  rw [show fz.cps.size = (cs fz).length from hfl.symm, take_length] at hms
  have s1 := Same.new (o := .lst (ms.map fun c : Nat => V.str ⟨#[c]⟩)) hp
  have e1 : upd Hy p (.lst (ms.map fun c : Nat => V.str ⟨#[c]⟩)) p = some (.lst (ms.map fun c : Nat => V.str ⟨#[c]⟩)) := Zad
  generalize upd Hy p (.lst (ms.map fun c : Nat => V.str ⟨#[c]⟩)) = H1 at s1 e1
  walk_at"rd"
  walk_at"mk"; intro p2 hp2
  have s2 := Same.new (o := .lst []) hp2
  have e2 : upd H1 p2 (.lst []) p2 = some (.lst []) := Zad
  generalize upd H1 p2 (.lst []) = H2 at s2 e2
  have s12 := s1.trans s2
  walk_at"rd"
  have rr : Reps H2 (ms.map fun c : Nat => D.str ⟨#[c]⟩) (ms.map fun c : Nat => V.str ⟨#[c]⟩) := by
    clear hms e1
    clear s1
    induction ms with
    | nil => exact Zaq
    | cons c ms ih => exact Zai (by rw [Rep]) ih
  have pl : D.pls (ms.map fun c : Nat => D.str ⟨#[c]⟩) = true /\ D.deps (ms.map fun c : Nat => D.str ⟨#[c]⟩) = 0 := by
    clear hms e1 rr s1
    induction ms with
    | nil => exact ⟨by rw [map_nil, D.pls], by rw [map_nil, D.deps]⟩
    | cons c ms ih => exact ⟨by rw [map_cons, D.pls, ih.1]; rfl, by rw [map_cons, D.deps, ih.2]; rfl⟩
  refine Zlu (SqL.of (s2 _ _ e1)) rr pl.1 (by rw [pl.2]; decide) e2 ?_
  walk_at"rd"
  refine ZdJ (fun h3 => ?_) (fun h3 => ?_)
  · walk_at"rd"
    refine no _ (fun h => h3 ?_) s12
    have : ms = [] := by
      rw [hms, filter_eq_nil_iff]
      intro c hc
      rw [ef] at hc
      have := all_eq_true.mp h.2 c hc
      simp [this]
    rw [this]
    rfl
  have hall : (figT z).all Zb5 = true := by
    have hme : ms = [] := map_eq_nil_iff.mp h3
    rw [all_eq_true]
    intro c hc
    rw [hme] at hms
    have := filter_eq_nil_iff.mp hms.symm c (by rw [ef]; exact hc)
    simpa using this
  have hcond : (1 <= (figT z).length /\ (figT z).length <= most) /\ (figT z).all Zb5 = true := ⟨⟨hf1, by rw [<- ef, hfl]; lia⟩, hall⟩
  obtain ⟨hzl, n', hn'⟩ := Zey hm hcond.1 hcond.2
  obtain ⟨c, r, ec⟩ : ∃ c r, cs fz = c :: r := by
    cases h : cs fz with
    | nil => rw [<- ef, h] at hf1; exact absurd hf1 (by decide)
    | cons c r => exact ⟨c, r, rfl⟩
  have hc0 : (⟨#[c]⟩ : Str) = Str.ofString "0" ↔ (figT z).head? = some 48 := by
    rw [<- ef, ec]
    constructor
    · intro e
      have := congrArg cs e
      have h2 : [c] = [48] := this.trans (by decide)
      rw [(List.cons.inj h2).1]
      rfl
    · intro e
      cases e
      decide
  have hz1 : (figT z).head? = some 48 -> (1 < z.length ↔ cs z ≠ [48]) := by
    intro h48
    constructor
    · intro h e
      rw [<- hl, e] at h
      exact absurd h (by decide)
    · intro h
      have : 1 <= z.length := by rw [<- hl]; unfold figT at hf1; split at hf1 <;> (try rw [length_drop] at hf1) <;> lia
      rcases Nat.lt_or_ge 1 z.length with q | q
      · exact q
      · exfalso
        have h1' : z.length = 1 := by lia
        rw [<- hl] at h1'
        obtain ⟨d, hd⟩ := length_eq_one_iff.mp h1'
        unfold figT at h48
        split at h48
        · rw [hd] at h48; cases h48
        · rw [hd] at h48
          cases h48
          exact h hd
  walk_at"rd"
  refine ⟨fz, 0, c, rfl, rfl, ZaN (by lia), Zan (n := 0) rfl (by show (cs fz)[0]? = _; rw [ec]; rfl), ?_⟩
  walk_at"rd"
  refine ZaS (fun h4 => ?_) (fun h4 => ?_)
  · walk_at"rd"
    refine Zef (ZaN (by lia)) ?_
    walk_at"rd"
    refine ZaS (fun h5 => ?_) (fun h5 => ?_)
    · walk_at"rd"
      refine yes ?_ s12
      unfold ZaF
      rw [if_pos hcond, if_pos ⟨hc0.mp h4, (hz1 (hc0.mp h4)).mp (by lia)⟩]
      rfl
    · walk_at"rd"
      refine Zd1 hn' (by lia) ?_
      refine yes ?_ s12
      unfold ZaF
      rw [if_pos hcond, if_neg (fun h => h5 (by have := (hz1 h.1).mpr h.2; lia)), hn']
      rfl
  · walk_at"rd"
    refine Zd1 hn' (by lia) ?_
    refine yes ?_ s12
    unfold ZaF
    rw [if_pos hcond, if_neg (fun h => h4 (hc0.mpr h.1)), hn']
    rfl
theorem ZcZ {z:Str} {n:Int} (h:ZaF 300 z=some n):intText? z=some n/\z.length<=640:=by
 unfold ZaF at h
 by_cases hc:(1<=(figT z).length/\(figT z).length<=300)/\(figT z).all Zb5=true
 ·rw [if_pos hc] at h
  obtain ⟨hzl,n',hn'⟩:=Zey (most:=300) (by decide) hc.1 hc.2
  by_cases h0:(figT z).head?=some 48/\cs z≠[48]
  ·rw [if_pos h0] at h;cases h
  ·rw [if_neg h0] at h
   exact ⟨h,by lia⟩
 ·rw [if_neg hc] at h;cases h
inductive Pr_form_of (x:V) (H:Hp) (Q:VK):Prop
 | mk (z) (_:x=.str z) (_:z.length<=900000) (_:Zbd z) (_:∀ q v H',ZbT z=some q->Rep H' (fD q) v->Same H H'->Q v H') (_:ZbT z=none->∀ H',Same H H'->Q .non H'):Pr_form_of x H Q
noncomputable def ZfY:Sp:=sp1 (Pr_form_of)
theorem sc__law_form_of:FnScope ["text","some","pairs","one","two"] ["text"] (Zam Zcb):=⟨rfl,rfl,rfl,by decide +kernel,rfl,by decide +kernel,by decide +kernel⟩
theorem ZfT (B : Blt mg) (T__law_form_of : TopFn K mg "_law_form_of" Zcb ["text"]) (ZbF : Callee P w K mg base "_law_value" 1 ["text", "most"] Zgk) : Callee P w K mg base "_law_form_of" 2 ["text"] ZfY := by
  refine T__law_form_of.ok1 sc__law_form_of fun f cdv A outer s H v1 Q E hr h => ?_
  have nd := sc__law_form_of.nd
  obtain ⟨z, rfl, hz, az, k, no⟩ := h
  refine' Zbl [some (.str z), none, none, none, none] rfl ?hb ?hg
  case' hb => refine' Zae ?bab ?bac
  case' bab => refine' Zbk (i := 1) ?bad ?bae ?baf ?bag
  case bad => exact nd
  case bae => exact rfl
  case baf => exact (Or.inl rfl)
  case bag => exact (k_bm (K := K) rfl PySem.F.plainAttrs_str PySem.F.slot_str_split PySem.F.type_str_split Zb1 (pv 0) (Zaf Zak Zab))
  case' bac => refine' Zae ?bah ?bai
  case bah => exact (Zcm (i := 2) nd rfl (Or.inl rfl) (Zba Zab))
  case' bai => refine' Zae ?baj ?bak
  case' baj => refine' Zch ?bal ?bam ?ban ?bao ?bap
  case bal => exact PassesOwn.never
  case bam => exact rfl
  case ban => exact (Za4 (K := K) rfl (Zau (k_sl (K := K) rfl) (pv 1) (ZaB Zaa) ZaG))
  case bao => exact (ZaE (i := 3) nd rfl (Or.inl rfl))
  case' bap => refine' Zae ?baq ?bar
  case' baq => refine' Zbk (i := 4) ?bas ?bat ?bau ?bav
  case bas => exact nd
  case bat => exact rfl
  case bau => exact (Or.inl rfl)
  case bav => exact (k_bm (K := K) rfl PySem.F.plainAttrs_str PySem.F.slot_str_split PySem.F.type_str_split Zb1 (pv 3) (Zaf Zak Zab))
  case' bar => refine' Zae ?baw ?bax
  case' baw => refine' Za1 ?bay ?baz ?bba
  case' bay => refine' PW.pt ?bbb
  case' bbb => refine' ZeZ ?bbc ?bbd
  case bbc => exact (Zal Ze0 (Zaw (Zcu (K := K) rfl) (by rfl) B.b_len ZbA (Zac (pv 4) Zab)) Zaa (Zas _))
  case' bbd => refine' ZeZ ?bbe ?bbf
  case' bbe => refine' Zal ?bbg ?bbh ?bbi ?bbj
  case bbg => exact Zfv
  case' bbh => refine' Za7 ?bbk ?bbl ?bbm ?bbn
  case bbk => exact ZbF
  case bbl => exact (hr.mono (by first | decide | lia))
  case bbm => exact (by rfl)
  case bbn => exact (Zap (Zao (k_ix (K := K) rfl) (pv 4) Zaa (fun _ _ => rfl)) (Zaf Zaa Zab))
  case bbi => exact ZbZ
  case bbj => exact (Zas _)
  case' bbf => refine' Zeg ?bbo
  case' bbo => refine' Zal ?bbp ?bbq ?bbr ?bbs
  case bbp => exact Zfv
  case' bbq => refine' Za7 ?bbt ?bbu ?bbv ?bbw
  case bbt => exact ZbF
  case bbu => exact (hr.mono (by first | decide | lia))
  case bbv => exact (by rfl)
  case bbw => exact (Zap (Zao (k_ix (K := K) rfl) (pv 4) Zaa (fun _ _ => rfl)) (Zaf Zaa Zab))
  case bbr => exact ZbZ
  case bbs => exact (Zas _)
  case baz => exact (Zag (ZaD ZbZ))
  case bba => exact Zaz
  case' bax => refine' Zag ?bbx
  case' bbx => refine' Zby ?bby
  case' bby => refine' k_bm (K := K) ?bbz ?bca ?bcb ?bcc ?bcd ?bce ?bcf
  case bbz => exact rfl
  case bca => exact PySem.F.plainAttrs_list
  case bcb => exact PySem.F.slot_list_append
  case bcc => exact PySem.F.type_list_append
  case bcd => exact Za3
  case bce => exact (pv 2)
  case' bcf => refine' ZbR ?bcg ?bch
  case' bcg => refine' Zbb ?bci
  case' bci => refine' Zay ?bcj ?bck
  case bcj => exact (ZaI ZdN (by rfl) B.b_int Zev (Zap (Zao (k_ix (K := K) rfl) (pv 4) Zaa (fun _ _ => rfl)) Zab))
  case bck => exact (Zay (ZaI ZdN (by rfl) B.b_int Zev (Zap (Zao (k_ix (K := K) rfl) (pv 4) Zaa (fun _ _ => rfl)) Zab)) Zab)
  case bch => exact Zab
  case' bak => refine' Zae ?bcl ?bcm
  case' bcl => refine' Za1 ?bcn ?bco ?bcp
  case' bcn => refine' Zal ?bcq ?bcr ?bcs ?bct
  case bcq => exact Zfv
  case' bcr => refine' Za7 ?bcu ?bcv ?bcw ?bcx
  case bcu => exact ZbF
  case bcv => exact (hr.mono (by first | decide | lia))
  case bcw => exact (by rfl)
  case bcx => exact (Zap (Zao (k_ix (K := K) rfl) (pv 1) Zaa (fun _ _ => rfl)) (Zaf Zaa Zab))
  case bcs => exact ZbZ
  case bct => exact (Zas _)
  case bco => exact (Zag (ZaD ZbZ))
  case bcp => exact Zaz
  case' bcm => refine' Zag ?bcy
  case' bcy => refine' ZaD ?bcz
  case' bcz => refine' Zbb ?bda
  case' bda => refine' Zay ?bdb ?bdc
  case bdb => exact (ZaI ZdN (by rfl) B.b_int Zev (Zap (Zao (k_ix (K := K) rfl) (pv 1) Zaa (fun _ _ => rfl)) Zab))
  case bdc => exact (Zay (ZaI (Zdr (K := K) rfl) (by rfl) B.b_tuple ZbS (Zac (pv 2) Zab)) Zab)
  walk_at"rd"
  refine ⟨rfl, ?_⟩
  walk_at"rd"
  refine Zc1 (c := 59) (by decide) (by lia) fun p1 H1 n1 s1 e1 => ?_
  have wo := WsOk.split (c := 59) hz az
  have eP : ZbT z = Zn8 (Txt.split z ⟨#[59]⟩) := by unfold ZbT; rw [ZdE]
  obtain ⟨x, vs, hws⟩ : ∃ w0 ws, Txt.split z ⟨#[59]⟩ = w0 :: ws := by
    cases hws : Txt.split z ⟨#[59]⟩ with
    | nil => exact absurd hws (ZbV _ _)
    | cons w0 ws => exact ⟨w0, ws, rfl⟩
  rw [hws] at wo eP e1
  have eP : ZbT z = both Prod.mk (ZaF 300 x) (vs.mapM Zdn) := eP
  obtain ⟨ax, lx⟩ := wo.2 x mem_cons_self
  have wd : WsOk vs := wo.drop 1
  walk_at"rd"
  walk_at"mk"; intro p2 n2
  have s2 := Same.new (o := .lst []) n2
  have e2 : upd H1 p2 (.lst []) p2 = some (.lst []) := Zad
  generalize upd H1 p2 (.lst []) = H2 at s2 e2
  walk_at"rd"
  refine Zcx (SqL.of (s2 _ _ e1)) fun p3 n3 => ?_
  rw [show cutV ((x :: vs).map V.str) (some 1) none = vs.map V.str from Zex (ws := x :: vs) (k := 1) (by simp)]
  have s3 := Same.new (o := .lst (vs.map V.str)) n3
  have e3 : upd H2 p3 (.lst (vs.map V.str)) p3 = some (.lst (vs.map V.str)) := Zad
  generalize upd H2 p3 (.lst (vs.map V.str)) = H3 at s3 e3
  have s13 := (s1.trans s2).trans s3
  have n32 : p3 ≠ p2 := fun z => by rw [z, e2] at n3; cases n3
  have n2' := s1.free n2
  have n12 : p1 ≠ p2 := fun z => by rw [<- z, e1] at n2; cases n2
  refine Zb4 (SqL.of e3) ?_
  refine ZcD (xs := vs.map V.str) (fun i σ Hx => Ex4 fun c3 c4 qs ys => An8 (σ = [some (.str z), some (.ref p1), some (.ref p2), c3, c4]) (Same H Hx) (Hx p1 = some (.lst ((x :: vs).map V.str))) (Hx p3 = some (.lst (vs.map V.str))) (Hx p2 = some (.lst ys)) ((vs.take i).mapM Zdn = some qs) (Reps Hx (qs.map ZhL) ys) (ys.length = i))
    ⟨none, none, [], [], rfl, s13, s3 _ _ (s2 _ _ e1), e3, s3 _ _ e2, rfl, Zaq, rfl⟩ (fun i σ Hx _ z_ => by obtain ⟨_, _, _, _, _, _, _, e, _⟩ := z_; exact SqL.of e) ?_ ?_
  · rintro i y σ Hx hx ⟨c3, c4, qs, ys, rfl, s4, g1, g3, g2, hqs, rq, hl⟩ N hN
    rw [getElem?_map] at hx
    obtain ⟨one, ew, rfl⟩ := Option.map_eq_some_iff.mp hx
    obtain ⟨aw, hw⟩ := wd.2 one (mem_of_getElem? ew)
    have nx := ZcA (f := Zdn) ew hqs
    walk_at"rd"
    refine ⟨rfl, ?_⟩
    walk_at"rd"
    refine Zc1 (c := 58) (by decide) (by lia) fun p4 H4 n4 s5 e4 => ?_
    walk_at"rd"
    refine Zbf (SqL.of e4) ?_
    walk_at"rd"
    have eq1 : Zdn one = ZlR (Txt.split one ⟨#[58]⟩) := by unfold Zdn; rw [Zdt]
    have w4 := WsOk.split (c := 58) hw aw
    generalize Txt.split one ⟨#[58]⟩ = tw at e4 eq1 w4
    have s45 := s4.trans s5
    have bad : Zdn one = none -> ZbT z = none := fun hq => by
      rw [eP, ZcB (i := i + 1) (by rw [nx, hq]; rfl)]
      cases ZaF 300 x <;> rfl
    refine ZdJ (fun h2 => ?_) (fun h2 => ?_)
    · walk_at"rd"
      refine no (bad ?_) _ s45
      rw [eq1]
      unfold ZlR
      split
      · exact absurd rfl h2
      · rfl
    obtain ⟨ta, tb, rfl⟩ : ∃ ta tb, tw = [ta, tb] := by
      rw [length_map] at h2
      match tw, h2 with
      | [ta, tb], _ => exact ⟨ta, tb, rfl⟩
    have eq1 : Zdn one = both Prod.mk (ZaF 300 ta) (ZaF 300 tb) := eq1
    obtain ⟨aa, la⟩ := w4.2 ta mem_cons_self
    obtain ⟨ab, lb⟩ := w4.2 tb (mem_cons_of_mem _ mem_cons_self)
    walk_at"rd"
    refine Zaj e4 (v := .str ta) (Zan (n := 0) rfl rfl) ?_
    walk_at"rd"
    refine use2 ⟨ta, 300, rfl, rfl, by decide, la, aa, fun H5 s6 => ?_⟩
    cases ha : ZaF 300 ta with
    | none =>
      walk_at"rd"
      refine Zc7 rfl ?_
      walk_at"rd"
      exact no (bad (by rw [eq1, ha]; rfl)) _ (s45.trans s6)
    | some na =>
    walk_at"rd"
    refine Zco (fun z => by cases z) ?_
    walk_at"rd"
    refine Zaj (s6 _ _ e4) (v := .str tb) (Zan (n := 1) rfl rfl) ?_
    walk_at"rd"
    refine use2 ⟨tb, 300, rfl, rfl, by decide, lb, ab, fun H6 s7 => ?_⟩
    have s57 := (s5.trans s6).trans s7
    cases hb : ZaF 300 tb with
    | none =>
      walk_at"rd"
      refine Zc7 rfl ?_
      walk_at"rd"
      exact no (bad (by rw [eq1, ha, hb]; rfl)) _ (s4.trans s57)
    | some nb =>
    have hq : Zdn one = some (na, nb) := by rw [eq1, ha, hb]; rfl
    walk_at"rd"
    refine Zco (fun z => by cases z) ?_
    walk_at"rd"
    refine ⟨.inl ⟨rfl, _, SqL.of (s57 _ _ g2)⟩, ?_⟩
    walk_at"rd"
    refine Zaj ((s6.trans s7) _ _ e4) (v := .str ta) (Zan (n := 0) rfl rfl) ?_
    walk_at"rd"
    refine Zd1 (ZcZ ha).1 (ZcZ ha).2 ?_
    walk_at"rd"
    refine Zaj ((s6.trans s7) _ _ e4) (v := .str tb) (Zan (n := 1) rfl rfl) ?_
    walk_at"rd"
    refine Zd1 (ZcZ hb).1 (ZcZ hb).2 ?_
    walk_at"rd"
    walk_at"mk"; intro p6 n6
    have s8 := Same.new (o := .tup [V.int na, V.int nb]) n6
    have e6 : upd H6 p6 (.tup [V.int na, V.int nb]) p6 = some (.tup [V.int na, V.int nb]) := Zad
    generalize upd H6 p6 (.tup [V.int na, V.int nb]) = H7 at s8 e6
    have s58 := s57.trans s8
    have g27 := s58 _ _ g2
    walk_at"rd"
    have hi : i < vs.length := (List.getElem?_eq_some_iff.mp ew).1
    have := wd.1
    refine ZaV g27 (Nat.lt_of_le_of_lt (show ys.length <= 1000000 by lia) (by rw [PySem.sizeLine_eq]; decide)) ?_
    have tw : TSame H7 (upd H7 p2 (.lst (ys ++ [V.ref p6]))) := TSame.wr fun zs z => by rw [g27] at z; cases z
    refine hN _ _ ⟨_, _, qs ++ [(na, nb)], ys ++ [.ref p6], rfl, (s4.trans s58).wrF n2', by rw [Zat n12]; exact s58 _ _ g1, by rw [Zat n32]; exact s58 _ _ g3, Zad, by rw [nx, hq]; rfl, ?_, by rw [length_append, hl]; rfl⟩
    rw [map_append]
    exact Reps.append (rq.mono (s58.ts.trans tw)) (Zai (ZaZ (tw _ _ e6) (Zai Za9 (Zai Za9 Zaq))) Zaq)
  rintro σ Hx ⟨c3, c4, qs, ys, rfl, s4, g1, g3, g2, hqs, rq, hl⟩
  rw [length_map, take_length] at hqs
  rw [length_map] at hl
  have := wd.1
  walk_at"rd"
  refine Zaj g1 (v := .str x) (Zan (n := 0) rfl rfl) ?_
  walk_at"rd"
  refine use2 ⟨x, 300, rfl, rfl, by decide, lx, ax, fun H5 s6 => ?_⟩
  cases hx : ZaF 300 x with
  | none =>
    walk_at"rd"
    refine Zc7 rfl ?_
    walk_at"rd"
    exact no (by rw [eP, hx]; rfl) _ (s4.trans s6)
  | some n =>
  walk_at"rd"
  refine Zco (fun z => by cases z) ?_
  walk_at"rd"
  refine Zaj (s6 _ _ g1) (v := .str x) (Zan (n := 0) rfl rfl) ?_
  walk_at"rd"
  refine Zd1 (ZcZ hx).1 (ZcZ hx).2 ?_
  walk_at"rd"
  refine Zdl (SqL.of (s6 _ _ g2)) fun p6 hp6 => ?_
  have s7 := Same.new (o := .tup ys) hp6
  have e6 : upd H5 p6 (.tup ys) p6 = some (.tup ys) := Zad
  generalize upd H5 p6 (.tup ys) = H6 at s7 e6
  walk_at"rd"
  walk_at"mk"; intro p7 hp7
  have s8 := Same.new (o := .tup [V.int n, V.ref p6]) hp7
  have s68 := (s6.trans s7).trans s8
  exact k (n, qs) (.ref p7) _ (by rw [eP, hx, hqs]; rfl) (ZaZ Zad (Zai Za9 (Zai (ZaZ (s8 _ _ e6) (rq.mono s68.ts)) Zaq))) (s4.trans s68)
noncomputable def Ze1 (ws:List Str):List V:=ws.map fun x=>valV (ZaF 300 x)
theorem Zkd : ∀ {ws : List Str} {ns : List Int}, ws.mapM (ZaF 300) = some ns -> Ze1 ws = ns.map V.int := by
  intro ws ns h
  obtain ⟨hl, hi⟩ := Zck h
  refine ext_getElem? fun i => ?_
  unfold Ze1
  rw [getElem?_map, getElem?_map]
  cases e : ws[i]? with
  | none => rw [getElem?_eq_none (by rw [<- hl]; exact getElem?_eq_none_iff.mp e)]; rfl
  | some x =>
    obtain ⟨n, e1, e2⟩ := hi i x e
    rw [e1]
    show some (valV (ZaF 300 x)) = _
    rw [e2]
    rfl
theorem Zg7 : ∀ {ws : List Str}, inV .non (Ze1 ws) = (ws.mapM (ZaF 300)).isNone
  | [] => rfl
  | x :: ws => by
    have ih := Zg7 (ws := ws)
    rw [mapM_cons]
    show (eqV (valV (ZaF 300 x)) .non || inV .non (Ze1 ws)) = _
    rw [ih]
    cases ZaF 300 x with
    | none => rfl
    | some n =>
      cases ws.mapM (ZaF 300) <;> rfl
theorem Zhj : ∀ {ws : List Str}, (Ze1 ws).all ZfF = true
  | [] => rfl
  | x :: ws => by
    show (ZfF (valV (ZaF 300 x)) && (Ze1 ws).all ZfF) = true
    rw [Zhj]
    cases ZaF 300 x <;> rfl
theorem Zgz {x : Str} : ∀ {l : List Str}, inV (.str x) (l.map V.str) = decide (x ∈ l)
  | [] => by simp [inV]
  | y :: l => by
    have ih := Zgz (x := x) (l := l)
    unfold inV at ih ⊢
    rw [map_cons, any_cons, ih, Zoc, Bool.eq_iff_iff, Bool.or_eq_true, beq_iff_eq, decide_eq_true_iff, decide_eq_true_iff, mem_cons]
    exact ⟨fun h => h.elim (fun e => .inl e.symm) .inr, fun h => h.elim (fun e => .inl e.symm) .inr⟩
inductive LnR where
 | deed (w:Str) (ns:List Int)|stand (n:Int)|frame (f:ZbK)|edge (e:ZdW)
noncomputable def lnD:LnR->D
 | .deed w ns=>.tup [.str "deed",.tup (.str w::ns.map D.int)]
 | .stand n=>.tup [.str "stand",.int n]
 | .frame f=>.tup [.str "frame",Zcp f]
 | .edge e=>.tup [.str "edge",ZcY e]
noncomputable def goW:List Str:=["go","test","tell","take","leave"]
noncomputable def ZfP:Str:="hold"
noncomputable def Zfx (w0:Str) (rest:List Str) (ns:List Int):Option LnR :=
 if (w0=ZaH\/w0=ZaY)/\2<=rest.length then
  (match ns,(rest.drop 2).mapM ZbT with
  | [a,b],some fs=>some (if w0=ZaH then .frame (a,b,fs) else .edge (a,fs,b))
  | _,_=>none)
 else none
noncomputable def ZcI (w0:Str) (rest:List Str) (ns:List Int):Option LnR :=
 if w0=ZaL/\rest.length=1 then ns.head?.map LnR.stand
 else if w0=ZfP/\rest.length=2 then some (.deed ZfP ns)
 else Zfx w0 rest ns
noncomputable def Zem:List Str->Option LnR
 | []=>none
 | w0::rest=>if w0∈goW/\rest=[] then some (.deed w0 []) else ((rest.take 2).mapM (ZaF 300)).bind (ZcI w0 rest)
noncomputable def Zgv (z:Str):Option LnR:=Zem (Txt.split z Zbw)
noncomputable def FQ (H:Hp) (w:Str) (y:V):Prop:=(ZbT w=none/\y=.non)\/∃ q,ZbT w=some q/\Rep H (fD q) y
theorem Zfs {α β:Type} {F:α->β->Prop} {l:List α} {m:List β} {a:α} {b:β} (r:Paired F l m) (h:F a b):Paired F (l++[a]) (m++[b]):=by
 induction r with
 | nil=>exact .cons h .nil
 | cons h' _ ih=>exact .cons h' ih
theorem fq_all {H : Hp} {ws : List Str} {ys : List V} (r : Paired (FQ H) ws ys) : (∀ v ∈ ys, v = .non \/ ∃ a zs, v = .ref a /\ H a = some (.tup zs)) /\ (∀ fs, ws.mapM ZbT = some fs -> Reps H (fs.map fD) ys /\ (ys.any fun v => decide (v = .non)) = false) /\ (ws.mapM ZbT = none -> (ys.any fun v => decide (v = .non)) = true) := by
  induction r with
  | nil => exact ⟨(fun v hv => by cases hv), (fun fs h => by cases h; exact ⟨Zaq, rfl⟩), (fun h => by cases h)⟩
  | @cons w y ws ys h _ ih =>
    obtain ⟨i1, i2, i3⟩ := ih
    rcases h with ⟨h1, rfl⟩ | ⟨q, h1, rq⟩
    · refine ⟨fun v hv => ?_, fun fs h => ?_, fun _ => rfl⟩
      · rcases mem_cons.mp hv with rfl | hv
        · exact .inl rfl
        · exact i1 v hv
      · rw [mapM_cons, h1] at h
        cases h
    · obtain ⟨a, zs, rfl, ha, rz⟩ := ZaW rq
      refine ⟨fun v hv => ?_, fun fs h => ?_, fun h => ?_⟩
      · rcases mem_cons.mp hv with rfl | hv
        · exact .inr ⟨a, zs, rfl, ha⟩
        · exact i1 v hv
      · rw [mapM_cons, h1] at h
        cases hm : ws.mapM ZbT with
        | none => rw [hm] at h; cases h
        | some gs =>
          rw [hm] at h
          cases h
          obtain ⟨j1, j2⟩ := i2 gs hm
          exact ⟨Zai rq j1, by rw [any_cons, j2]; rfl⟩
      · rw [mapM_cons, h1] at h
        cases hm : ws.mapM ZbT with
        | none => rw [any_cons, i3 hm, Bool.or_true]
        | some gs => rw [hm] at h; cases h
inductive Pr_line_of (x:V) (H:Hp) (Q:VK):Prop
 | mk (z) (_:x=.str z) (_:z.length<=900000) (_:Zbd z) (_:∀ q v H',Zgv z=some q->Rep H' (lnD q) v->Same H H'->Q v H') (_:Zgv z=none->∀ H',Same H H'->Q .non H'):Pr_line_of x H Q
noncomputable def ZfX:Sp:=sp1 (Pr_line_of)
theorem sc__law_line_of:FnScope ["line","some","numbers","forms"] ["line"] (Zam Zb9):=⟨rfl,rfl,rfl,by decide +kernel,rfl,by decide +kernel,by decide +kernel⟩
theorem ZfR (B : Blt mg) (T__law_line_of : TopFn K mg "_law_line_of" Zb9 ["line"]) (ZbF : Callee P w K mg base "_law_value" 1 ["text", "most"] Zgk) (Zdy : Callee P w K mg base "_law_form_of" 2 ["text"] ZfY) : Callee P w K mg base "_law_line_of" 3 ["line"] ZfX := by
  refine T__law_line_of.ok1 sc__law_line_of fun f cdv A outer s H v1 Q E hr h => ?_
  have nd := sc__law_line_of.nd
  have hu := hr.units
  obtain ⟨z, rfl, hz, az, k, no⟩ := h
  refine' Zbl [some (.str z), none, none, none] rfl ?hb ?hg
  case' hb => refine' Zae ?bab ?bac
  case' bab => refine' Zbk (i := 1) ?bad ?bae ?baf ?bag
  case bad => exact nd
  case bae => exact rfl
  case baf => exact (Or.inl rfl)
  case bag => exact (k_bm (K := K) rfl PySem.F.plainAttrs_str PySem.F.slot_str_split PySem.F.type_str_split Zb1 (pv 0) (Zaf Zak Zab))
  case' bac => refine' Zae ?bah ?bai
  case' bah => refine' Za1 ?baj ?bak ?bal
  case' baj => refine' PW.pt ?bam
  case' bam => refine' ZcP ?ban ?bao
  case' ban => refine' Zal ?bap ?baq ?bar ?bas
  case bap => exact (k_in (K := K) rfl)
  case baq => exact (Zao (k_ix (K := K) rfl) (pv 1) Zaa (fun _ _ => rfl))
  case bar => exact (Zba (Zaf Zak (Zaf Zak (Zaf Zak (Zaf Zak (Zaf Zak Zab))))))
  case bas => exact (by with_unfolding_all rfl)
  case bao => exact (ZbX (Zal Zbc (Zaw (Zcu (K := K) rfl) (by rfl) B.b_len ZbA (Zac (pv 1) Zab)) Zaa (Zas _)))
  case bak => exact (Zag (ZaD (Zbb (Zaf Zak (ZbR (Zbb (Zap (Zao (k_ix (K := K) rfl) (pv 1) Zaa (fun _ _ => rfl)) Zab)) Zab)))))
  case bal => exact Zaz
  case' bai => refine' Zae ?bat ?bau
  case' bat => refine' ZhJ (i := 2) (LN := ["one"]) (FN := []) (fr := []) ?bav ?baw ?bax ?bay ?baz ?bba ?bbb ?bbc ?bbd
  case bav => exact rfl
  case baw => exact nd
  case bax => exact rfl
  case bay => exact rfl
  case baz => exact (ZdO (by rfl))
  case bba => exact (Za4 (K := K) rfl (Zau (k_sl (K := K) rfl) (pv 1) (ZaB Zaa) (ZaB Zaa)))
  case' bbb => intro cl C fp pins s H
  case bbb => exact (ZaE (i := 0) (show ((["one"] : List Str) ++ ([] : List Str)).Nodup by decide +kernel) rfl (Or.inl rfl))
  case' bbc => intro cl C fp pins s H
  case bbc => exact ZbY
  case' bbd => intro cl C fp pins s H
  case bbd => exact (Za7 ZbF (hr.mono (by first | decide | lia)) (by rfl) (Zac (pv 0) (Zaf Zaa Zab)))
  case' bau => refine' Zae ?bbe ?bbf
  case bbe => exact (Za1 (Zal (k_in (K := K) rfl) ZbZ (pv 2) (by with_unfolding_all rfl)) (Zag (ZaD ZbZ)) Zaz)
  case' bbf => refine' Zae ?bbg ?bbh
  case' bbg => refine' Za1 ?bbi ?bbj ?bbk
  case' bbi => refine' PW.pt ?bbl
  case' bbl => refine' ZcP ?bbm ?bbn
  case bbm => exact (Zal Zbc (Zao (k_ix (K := K) rfl) (pv 1) Zaa (fun _ _ => rfl)) Zak (Zas _))
  case bbn => exact (ZbX (Zal Zbc (Zaw (Zcu (K := K) rfl) (by rfl) B.b_len ZbA (Zac (pv 1) Zab)) Zaa (Zas _)))
  case bbj => exact (Zag (ZaD (Zbb (Zaf Zak (Zap (Zao (k_ix (K := K) rfl) (pv 2) Zaa (fun _ _ => rfl)) Zab)))))
  case bbk => exact Zaz
  case' bbh => refine' Zae ?bbo ?bbp
  case' bbo => refine' Za1 ?bbq ?bbr ?bbs
  case' bbq => refine' PW.pt ?bbt
  case' bbt => refine' ZcP ?bbu ?bbv
  case bbu => exact (Zal Zbc (Zao (k_ix (K := K) rfl) (pv 1) Zaa (fun _ _ => rfl)) Zak (Zas _))
  case bbv => exact (ZbX (Zal Zbc (Zaw (Zcu (K := K) rfl) (by rfl) B.b_len ZbA (Zac (pv 1) Zab)) Zaa (Zas _)))
  case' bbr => refine' Zag ?bbw
  case' bbw => refine' ZaD ?bbx
  case' bbx => refine' Zbb ?bby
  case' bby => refine' Zaf ?bbz ?bca
  case bbz => exact Zak
  case' bca => refine' ZbR ?bcb ?bcc
  case' bcb => refine' Zbb ?bcd
  case' bcd => refine' Zaf ?bce ?bcf
  case bce => exact Zak
  case bcf => exact (Zap (Zao (k_ix (K := K) rfl) (pv 2) Zaa (fun _ _ => rfl)) (Zap (Zao (k_ix (K := K) rfl) (pv 2) Zaa (fun _ _ => rfl)) Zab))
  case bcc => exact Zab
  case bbs => exact Zaz
  case' bbp => refine' Zae ?bcg ?bch
  case' bcg => refine' ZhJ (i := 3) (LN := ["one"]) (FN := []) (fr := []) ?bci ?bcj ?bck ?bcl ?bcm ?bcn ?bco ?bcp ?bcq
  case bci => exact rfl
  case bcj => exact nd
  case bck => exact rfl
  case bcl => exact rfl
  case bcm => exact (ZdO (by rfl))
  case bcn => exact (Za4 (K := K) rfl (Zau (k_sl (K := K) rfl) (pv 1) (ZaB Zaa) ZaG))
  case' bco => intro cl C fp pins s H
  case bco => exact (ZaE (i := 0) (show ((["one"] : List Str) ++ ([] : List Str)).Nodup by decide +kernel) rfl (Or.inl rfl))
  case' bcp => intro cl C fp pins s H
  case bcp => exact ZbY
  case' bcq => intro cl C fp pins s H
  case bcq => exact (Za7 Zdy (hr.mono (by first | decide | lia)) (by rfl) (Zac (pv 0) Zab))
  case' bch => refine' Zae ?bcr ?bcs
  case' bcr => refine' Za1 ?bct ?bcu ?bcv
  case' bct => refine' PW.pt ?bcw
  case' bcw => refine' ZeZ ?bcx ?bcy
  case' bcx => refine' Zal ?bcz ?bda ?bdb ?bdc
  case bcz => exact (Zn4 (K := K) rfl)
  case bda => exact (Zao (k_ix (K := K) rfl) (pv 1) Zaa (fun _ _ => rfl))
  case bdb => exact (Zba (Zaf Zak (Zaf Zak Zab)))
  case bdc => exact (by with_unfolding_all rfl)
  case' bcy => refine' ZeZ ?bdd ?bde
  case bdd => exact (Zal ZlU (Zaw (Zcu (K := K) rfl) (by rfl) B.b_len ZbA (Zac (pv 1) Zab)) Zaa (Zas _))
  case bde => exact (Zeg (Zal (op_inN hu) ZbZ (pv 3) (by with_unfolding_all rfl)))
  case bcu => exact (Zag (ZaD ZbZ))
  case bcv => exact Zaz
  case' bcs => refine' Zae ?bdf ?bdg
  case' bdf => refine' Za1 ?bdh ?bdi ?bdj
  case bdh => exact (Zal Zbc (Zao (k_ix (K := K) rfl) (pv 1) Zaa (fun _ _ => rfl)) Zak (Zas _))
  case' bdi => refine' Zag ?bdk
  case' bdk => refine' ZaD ?bdl
  case' bdl => refine' Zbb ?bdm
  case' bdm => refine' Zaf ?bdn ?bdo
  case bdn => exact Zak
  case' bdo => refine' ZbR ?bdp ?bdq
  case' bdp => refine' Zbb ?bdr
  case' bdr => refine' Zap ?bds ?bdt
  case bds => exact (Zao (k_ix (K := K) rfl) (pv 2) Zaa (fun _ _ => rfl))
  case' bdt => refine' Zap ?bdu ?bdv
  case bdu => exact (Zao (k_ix (K := K) rfl) (pv 2) Zaa (fun _ _ => rfl))
  case bdv => exact (Zay (ZaI (Zdr (K := K) rfl) (by rfl) B.b_tuple ZbS (Zac (pv 3) Zab)) Zab)
  case bdq => exact Zab
  case bdj => exact Zaz
  case' bdg => refine' Zag ?bdw
  case' bdw => refine' ZaD ?bdx
  case' bdx => refine' Zbb ?bdy
  case' bdy => refine' Zaf ?bdz ?bea
  case bdz => exact Zak
  case' bea => refine' ZbR ?beb ?bec
  case' beb => refine' Zbb ?bed
  case' bed => refine' Zap ?bee ?bef
  case bee => exact (Zao (k_ix (K := K) rfl) (pv 2) Zaa (fun _ _ => rfl))
  case' bef => refine' Zay ?beg ?beh
  case beg => exact (ZaI (Zdr (K := K) rfl) (by rfl) B.b_tuple ZbS (Zac (pv 3) Zab))
  case beh => exact (Zap (Zao (k_ix (K := K) rfl) (pv 2) Zaa (fun _ _ => rfl)) Zab)
  case bec => exact Zab
  walk_at"rd"
  refine ⟨rfl, ?_⟩
  walk_at"rd"
  refine Zc1 (c := 32) (by decide) (by lia) fun p1 H1 n1 s1 e1 => ?_
  have wo := WsOk.split (c := 32) hz az
  have eP : Zgv z = Zem (Txt.split z ⟨#[32]⟩) := by unfold Zgv; rw [Zcd]
  obtain ⟨w0, rest, hws⟩ : ∃ w0 ws, Txt.split z ⟨#[32]⟩ = w0 :: ws := by
    cases hws : Txt.split z ⟨#[32]⟩ with
    | nil => exact absurd hws (ZbV _ _)
    | cons w0 ws => exact ⟨w0, ws, rfl⟩
  rw [hws] at wo eP e1
  have hrl := wo.1
  refine Zcc ?_
  try dsimp +zetaDelta only
  refine Zbz (fun σ' H' => σ' = [some (.str z), some (.ref p1), none, none] /\ Same H1 H' /\ ¬ (w0 ∈ goW /\ rest = [])) (fun N hN => ?_) fun σ' H2 ⟨hσ, s2, hgo⟩ => ?_
  · walk_at"rd"
    refine Zaj e1 (v := .str w0) (Zan (n := 0) rfl rfl) ?_
    walk_at"rd"
    walk_at"mk"; intro p2 n2
    have s2 := Same.new (o := .lst (goW.map V.str)) n2
    refine ⟨p2, goW.map V.str, rfl, .inl (SqL.of Zad), rfl, rfl, ?_⟩
    rw [if_neg (by decide), Zgz]
    change ∃ k, _ /\ _
    walk_at"rd"
    refine ZaS (fun h1 => ?_) (fun h1 => ?_)
    · walk_at"rd"
      refine Zbf (SqL.of (s2 _ _ e1)) ?_
      walk_at"rd"
      refine ZaS (fun h2 => ?_) (fun h2 => ?_)
      · have hr0 : rest = [] := by
          rw [length_map, length_cons] at h2
          exact length_eq_zero_iff.mp (by lia)
        walk_at"rd"
        refine Zaj (s2 _ _ e1) (v := .str w0) (Zan (n := 0) rfl rfl) ?_
        walk_at"rd"
        walk_at"mk"; intro p3 n3
        have s3 := Same.new (o := .tup [V.str w0]) n3
        have e3 := Zad (H := upd H1 p2 (.lst (goW.map V.str))) (a := p3) (o := .tup [V.str w0])
        walk_at"rd"
        walk_at"mk"; intro p4 n4
        have s4 := Same.new (o := .tup [V.str "deed", V.ref p3]) n4
        refine k (.deed w0 []) (.ref p4) _ ?_ (ZaZ Zad (Zai (by rw [Rep]) (Zai (ZaZ (s4 _ _ e3) (Zai (by rw [Rep]) Zaq)) Zaq))) (s1.trans (s2.trans (s3.trans s4)))
        rw [eP]
        exact if_pos ⟨h1, hr0⟩
      · walk_at"rd"
        exact hN _ _ ⟨rfl, s2, fun h => h2 (by rw [h.2]; rfl)⟩
    · walk_at"rd"
      exact hN _ _ ⟨rfl, s2, fun h => h1 h.1⟩
  subst hσ
  have eP : Zgv z = ((rest.take 2).mapM (ZaF 300)).bind (ZcI w0 rest) := by
    rw [eP]
    exact if_neg hgo
  have e2 := s2 _ _ e1
  have s12 := s1.trans s2
  walk_at"rd"
  refine Zcx (SqL.of e2) fun p3 n3 => ?_
  rw [show cutV ((w0 :: rest).map V.str) (some 1) (some 3) = (rest.take 2).map V.str from (ZkT (k := 1) (m := 3) (by simp) (by decide)).trans (by rw [<- map_drop, <- map_take]; rfl)]
  have s3 := Same.new (o := .lst ((rest.take 2).map V.str)) n3
  have e3 : upd H2 p3 (.lst ((rest.take 2).map V.str)) p3 = some (.lst ((rest.take 2).map V.str)) := Zad
  generalize upd H2 p3 (.lst ((rest.take 2).map V.str)) = H3 at s3 e3
  have wr : WsOk rest := wo.drop 1
  have wt : WsOk (rest.take 2) := wr.take 2
  refine Zb4 (SqL.of e3) ?_
  refine Zds (xs := (rest.take 2).map V.str) (ZaN (by rw [length_map]; exact wt.1)) (fun j ys σ Hy => An3 (∃ x1, σ = [x1]) (Same H3 Hy) (ys = Ze1 ((rest.take 2).take j))) ⟨⟨none, rfl⟩, Same.refl _, rfl⟩ (fun j ys σ Hy _ z_ => by obtain ⟨_, s4, _⟩ := z_; exact SqL.of (s4 _ _ e3)) ?_ ?_
  · rintro j x ys σ Hy hx hle hlt ⟨⟨x1, rfl⟩, s4, rfl⟩
    rw [getElem?_map] at hx
    obtain ⟨wd, ew, rfl⟩ := Option.map_eq_some_iff.mp hx
    obtain ⟨wa, wl⟩ := wt.2 wd (mem_of_getElem? ew)
    walk_at"rd"
    refine use2 ⟨wd, 300, rfl, rfl, by decide, wl, wa, fun H5 s5 => ?_⟩
    refine ⟨hlt, by simpa using hle, ⟨_, rfl⟩, s4.trans s5, ?_⟩
    rw [take_add_one (l := rest.take 2) (i := j), ew]
    unfold Ze1
    rw [map_append]
    rfl
  rintro ys σ Hy _ ⟨⟨x1, rfl⟩, s4, rfl⟩ p5 n5
  rw [length_map, take_length]
  have s5 := Same.new (o := .lst (Ze1 (rest.take 2))) n5
  have e5 : upd Hy p5 (.lst (Ze1 (rest.take 2))) p5 = some (.lst (Ze1 (rest.take 2))) := Zad
  generalize upd Hy p5 (.lst (Ze1 (rest.take 2))) = H5 at s5 e5
  have s15 := ((s12.trans s3).trans s4).trans s5
  have g1 := ((s3.trans s4).trans s5) _ _ e2
  clear e3 n3 s3 s4 s5 n5 e2 s2 s12
  walk_at"rd"
  refine ⟨p5, _, rfl, .inl (SqL.of e5), rfl, Zhj, ?_⟩
  rw [if_neg (by decide), Zg7]
  cases hm : (rest.take 2).mapM (ZaF 300) with
  | none =>
    walk_at"rd"
    refine ZhS rfl ?_
    walk_at"rd"
    exact no (by rw [eP, hm]; rfl) _ s15
  | some ns =>
  rw [Zkd hm] at e5
  have eP : Zgv z = ZcI w0 rest ns := by rw [eP, hm]; rfl
  have hnl : ns.length = min 2 rest.length := by rw [(Zck hm).1.symm, length_take]
  walk_at"rd"
  refine Zhg rfl ?_
  refine Zfk ?_
  try dsimp +zetaDelta only
  refine Zbz (fun σ' H' => σ' = [some (.str z), some (.ref p1), some (.ref p5), none] /\ H5 = H' /\ ¬ (w0 = ZaL /\ rest.length = 1)) (fun N hN => ?_) fun σ' H' ⟨hσ, hH, hst⟩ => ?_
  · walk_at"rd"
    refine Zaj g1 (v := .str w0) (Zan (n := 0) rfl rfl) ?_
    walk_at"rd"
    refine ZaS (fun h1 => ?_) (fun h1 => ?_)
    · walk_at"rd"
      refine Zbf (SqL.of g1) ?_
      walk_at"rd"
      refine ZaS (fun h2 => ?_) (fun h2 => ?_)
      · rw [length_map, length_cons] at h2
        have h2' : rest.length = 1 := by lia
        obtain ⟨n, rfl⟩ : ∃ n, ns = [n] := length_eq_one_iff.mp (by lia)
        walk_at"rd"
        refine Zaj e5 (v := .int n) (Zan (n := 0) rfl rfl) ?_
        walk_at"rd"
        walk_at"mk"; intro p6 n6
        exact k (.stand n) (.ref p6) _ (by rw [eP]; unfold ZcI; rw [if_pos ⟨h1, h2'⟩]; rfl) (ZaZ Zad (Zai (by rw [Rep]) (Zai Za9 Zaq))) (s15.trans (Same.new n6))
      · walk_at"rd"
        refine hN _ _ ⟨rfl, rfl, fun h => h2 ?_⟩
        rw [length_map, length_cons, h.2]
        rfl
    · walk_at"rd"
      exact hN _ _ ⟨rfl, rfl, fun h => h1 h.1⟩
  subst hσ hH
  refine Zbz (fun σ' H' => σ' = [some (.str z), some (.ref p1), some (.ref p5), none] /\ H5 = H' /\ ¬ (w0 = ZfP /\ rest.length = 2)) (fun N hN => ?_) fun σ' H' ⟨hσ, hH, hho⟩ => ?_
  · walk_at"rd"
    refine Zaj g1 (v := .str w0) (Zan (n := 0) rfl rfl) ?_
    walk_at"rd"
    refine ZaS (fun h1 => ?_) (fun h1 => ?_)
    · walk_at"rd"
      refine Zbf (SqL.of g1) ?_
      walk_at"rd"
      refine ZaS (fun h2 => ?_) (fun h2 => ?_)
      · rw [length_map, length_cons] at h2
        have h2' : rest.length = 2 := by lia
        obtain ⟨n, m, rfl⟩ : ∃ n m, ns = [n, m] := by
          match ns, (show ns.length = 2 by lia) with
          | [n, m], _ => exact ⟨n, m, rfl⟩
        walk_at"rd"
        refine Zaj e5 (v := .int n) (Zan (n := 0) rfl rfl) ?_
        walk_at"rd"
        refine Zaj e5 (v := .int m) (Zan (n := 1) rfl rfl) ?_
        walk_at"rd"
        walk_at"mk"; intro p6 n6
        have s6 := Same.new (o := .tup [V.str "hold", V.int n, V.int m]) n6
        have e6 := Zad (H := H5) (a := p6) (o := .tup [V.str "hold", V.int n, V.int m])
        walk_at"rd"
        walk_at"mk"; intro p7 n7
        have s7 := Same.new (o := .tup [V.str "deed", V.ref p6]) n7
        exact k (.deed ZfP [n, m]) (.ref p7) _ (by rw [eP]; unfold ZcI; rw [if_neg hst, if_pos ⟨h1, h2'⟩]) (ZaZ Zad (Zai (by rw [Rep]) (Zai (ZaZ (s7 _ _ e6) (Zai (by rw [Rep]; rfl) (Zai Za9 (Zai Za9 Zaq)))) Zaq))) (s15.trans (s6.trans s7))
      · walk_at"rd"
        refine hN _ _ ⟨rfl, rfl, fun h => h2 ?_⟩
        rw [length_map, length_cons, h.2]
        rfl
    · walk_at"rd"
      exact hN _ _ ⟨rfl, rfl, fun h => h1 h.1⟩
  subst hσ hH
  have eP : Zgv z = Zfx w0 rest ns := by rw [eP]; unfold ZcI; rw [if_neg hst, if_neg hho]
  walk_at"rd"
  refine Zcx (SqL.of g1) fun p6 n6 => ?_
  rw [show cutV ((w0 :: rest).map V.str) (some 3) none = (rest.drop 2).map V.str from (Zes (k := 3)).trans (by rw [<- map_drop]; rfl)]
  have s6 := Same.new (o := .lst ((rest.drop 2).map V.str)) n6
  have e6 : upd H5 p6 (.lst ((rest.drop 2).map V.str)) p6 = some (.lst ((rest.drop 2).map V.str)) := Zad
  generalize upd H5 p6 (.lst ((rest.drop 2).map V.str)) = H6 at s6 e6
  have wr2 : WsOk (rest.drop 2) := wr.drop 2
  refine Zb4 (SqL.of e6) ?_
  refine Zds (xs := (rest.drop 2).map V.str) (ZaN (by rw [length_map]; exact wr2.1)) (fun j ys σ Hy => An3 (∃ x1, σ = [x1]) (Same H6 Hy) (Paired (FQ Hy) ((rest.drop 2).take j) ys)) ⟨⟨none, rfl⟩, Same.refl _, .nil⟩ (fun j ys σ Hy _ z_ => by obtain ⟨_, s4, _⟩ := z_; exact SqL.of (s4 _ _ e6)) ?_ ?_
  · rintro j x ys σ Hy hx hle hlt ⟨⟨x1, rfl⟩, s4, r4⟩
    rw [getElem?_map] at hx
    obtain ⟨wd, ew, rfl⟩ := Option.map_eq_some_iff.mp hx
    obtain ⟨wa, wl⟩ := wr2.2 wd (mem_of_getElem? ew)
    have up : ∀ {H7 : Hp}, Same Hy H7 -> Paired (FQ H7) ((rest.drop 2).take j) ys := fun s7 => L2.Paired.mapP r4 fun w y h => h.elim .inl fun ⟨q, h1, h2⟩ => .inr ⟨q, h1, h2.mono s7.ts⟩
    walk_at"rd"
    refine use1 ⟨wd, rfl, wl, wa, fun q v H7 hq rv s7 => ?_, fun hq H7 s7 => ?_⟩
    · refine ⟨hlt, by simpa using hle, ⟨_, rfl⟩, s4.trans s7, ?_⟩
      rw [take_add_one (l := rest.drop 2) (i := j), ew]
      exact Zfs (up s7) (.inr ⟨q, hq, rv⟩)
    · refine ⟨hlt, by simpa using hle, ⟨_, rfl⟩, s4.trans s7, ?_⟩
      rw [take_add_one (l := rest.drop 2) (i := j), ew]
      exact Zfs (up s7) (.inl ⟨hq, rfl⟩)
  rintro ys σ Hy _ ⟨⟨x1, rfl⟩, s7, r7⟩ p8 n8
  rw [length_map, take_length] at r7
  have s8 := Same.new (o := .lst ys) n8
  have e8 : upd Hy p8 (.lst ys) p8 = some (.lst ys) := Zad
  generalize upd Hy p8 (.lst ys) = H8 at s8 e8
  have s58 := (s6.trans s7).trans s8
  have r8 : Paired (FQ H8) (rest.drop 2) ys := L2.Paired.mapP r7 fun w y h => h.elim .inl fun ⟨q, h1, h2⟩ => .inr ⟨q, h1, h2.mono s8.ts⟩
  obtain ⟨q1, q2, q3⟩ := fq_all r8
  have g8 := s58 _ _ g1
  have e58 := s58 _ _ e5
  have s18 := s15.trans s58
  refine Zcc ?_
  try dsimp +zetaDelta only
  refine Zbz (fun σ' H' => σ' = [some (.str z), some (.ref p1), some (.ref p5), some (.ref p8)] /\ Same H8 H' /\ (w0 = ZaH \/ w0 = ZaY) /\ 2 <= rest.length /\ ∃ fs, (rest.drop 2).mapM ZbT = some fs) (fun N hN => ?_) fun σ' H9 ⟨hσ, s9, hfe, hlen, fs, hfs⟩ => ?_
  · walk_at"rd"
    refine Zaj g8 (v := .str w0) (Zan (n := 0) rfl rfl) ?_
    walk_at"rd"
    walk_at"mk"; intro p9 n9
    have s9 := Same.new (o := .lst (([ZaH, ZaY] : List Str).map V.str)) n9
    refine ⟨p9, ([ZaH, ZaY] : List Str).map V.str, rfl, .inl (SqL.of Zad), rfl, rfl, ?_⟩
    rw [if_pos rfl, Zgz]
    change ∃ k, _ /\ _
    walk_at"rd"
    have nof : ¬ (((w0 = ZaH \/ w0 = ZaY) /\ 2 <= rest.length) /\ ∃ fs, (rest.drop 2).mapM ZbT = some fs) -> Zgv z = none := fun h => by
      rw [eP]
      unfold Zfx
      by_cases hc : (w0 = ZaH \/ w0 = ZaY) /\ 2 <= rest.length
      · rw [if_pos hc]
        cases hm : (rest.drop 2).mapM ZbT with
        | none => rcases ns with _ | ⟨a, _ | ⟨b, _ | ⟨c, l⟩⟩⟩ <;> rfl
        | some fs => exact absurd ⟨hc, fs, hm⟩ h
      · rw [if_neg hc]
    have s19 := s18.trans s9
    refine ZdJ (fun h1 => ?_) (fun h1 => ?_)
    · walk_at"rd"
      exact no (nof fun h => h1 (by rcases h.1.1 with e | e <;> simp [e])) _ s19
    have h1' : w0 = ZaH \/ w0 = ZaY := by simpa using h1
    walk_at"rd"
    refine Zbf (SqL.of (s9 _ _ g8)) ?_
    walk_at"rd"
    refine ZaS (fun h2 => ?_) (fun h2 => ?_)
    · walk_at"rd"
      refine no (nof fun h => ?_) _ s19
      have := h.1.2
      rw [length_map, length_cons] at h2
      lia
    have h2' : 2 <= rest.length := by
      rw [length_map, length_cons] at h2
      lia
    walk_at"rd"
    refine rd_inN (s9 _ _ e8) (fun v hv => (q1 v hv).imp id fun ⟨a, zs, x1, x2⟩ => ⟨a, zs, x1, s9 _ _ x2⟩) ?_
    cases hm : (rest.drop 2).mapM ZbT with
    | none =>
      rw [q3 hm]
      walk_at"rd"
      exact no (nof fun ⟨_, fs, h⟩ => by rw [hm] at h; cases h) _ s19
    | some fs =>
      rw [(q2 fs hm).2]
      walk_at"rd"
      exact hN _ _ ⟨rfl, s9, h1', h2', fs, hm⟩
  subst hσ
  obtain ⟨a, b, rfl⟩ : ∃ n m, ns = [n, m] := by
    match ns, (show ns.length = 2 by lia) with
    | [n, m], _ => exact ⟨n, m, rfl⟩
  have rq := ((q2 fs hfs).1).mono s9.ts
  have g9 := s9 _ _ g8
  have e9 := s9 _ _ e58
  have f9 := s9 _ _ e8
  have eP : Zgv z = some (if w0 = ZaH then .frame (a, b, fs) else .edge (a, fs, b)) := by
    rw [eP]
    unfold Zfx
    rw [if_pos ⟨hfe, hlen⟩, hfs]
  walk_at"rd"
  refine Zaj g9 (v := .str w0) (Zan (n := 0) rfl rfl) ?_
  walk_at"rd"
  refine ZaS (fun h3 => ?_) (fun h3 => ?_)
  · walk_at"rd"
    refine Zaj e9 (v := .int a) (Zan (n := 0) rfl rfl) ?_
    walk_at"rd"
    refine Zaj e9 (v := .int b) (Zan (n := 1) rfl rfl) ?_
    walk_at"rd"
    refine Zdl (SqL.of f9) fun pa na => ?_
    have sa := Same.new (o := .tup ys) na
    have ea := Zad (H := H9) (a := pa) (o := .tup ys)
    generalize upd H9 pa (.tup ys) = Ha at sa ea
    walk_at"rd"
    walk_at"mk"; intro pb nb
    have sb := Same.new (o := .tup [V.int a, V.int b, V.ref pa]) nb
    have eb := Zad (H := Ha) (a := pb) (o := .tup [V.int a, V.int b, V.ref pa])
    generalize upd Ha pb (.tup [V.int a, V.int b, V.ref pa]) = Hb at sb eb
    walk_at"rd"
    walk_at"mk"; intro pc nc
    have sc := Same.new (o := .tup [V.str "frame", V.ref pb]) nc
    have sac := (sa.trans sb).trans sc
    exact k (.frame (a, b, fs)) (.ref pc) _ (by rw [eP]; exact congrArg some (if_pos h3)) (ZaZ Zad (Zai (by rw [Rep]) (Zai (ZaZ (sc _ _ eb) (Zai Za9 (Zai Za9 (Zai (ZaZ (sc _ _ (sb _ _ ea)) (rq.mono sac.ts)) Zaq)))) Zaq))) ((s18.trans s9).trans sac)
  · walk_at"rd"
    refine Zaj e9 (v := .int a) (Zan (n := 0) rfl rfl) ?_
    walk_at"rd"
    refine Zdl (SqL.of f9) fun pa na => ?_
    have sa := Same.new (o := .tup ys) na
    have ea := Zad (H := H9) (a := pa) (o := .tup ys)
    generalize upd H9 pa (.tup ys) = Ha at sa ea
    walk_at"rd"
    refine Zaj (sa _ _ e9) (v := .int b) (Zan (n := 1) rfl rfl) ?_
    walk_at"rd"
    walk_at"mk"; intro pb nb
    have sb := Same.new (o := .tup [V.int a, V.ref pa, V.int b]) nb
    have eb := Zad (H := Ha) (a := pb) (o := .tup [V.int a, V.ref pa, V.int b])
    generalize upd Ha pb (.tup [V.int a, V.ref pa, V.int b]) = Hb at sb eb
    walk_at"rd"
    walk_at"mk"; intro pc nc
    have sc := Same.new (o := .tup [V.str "edge", V.ref pb]) nc
    have sac := (sa.trans sb).trans sc
    exact k (.edge (a, fs, b)) (.ref pc) _ (by rw [eP]; exact congrArg some (if_neg h3)) (ZaZ Zad (Zai (by rw [Rep]) (Zai (ZaZ (sc _ _ eb) (Zai Za9 (Zai (ZaZ (sc _ _ (sb _ _ ea)) (rq.mono sac.ts)) (Zai Za9 Zaq)))) Zaq))) ((s18.trans s9).trans sac)
inductive Stg where
 | idle|fr (n:Int) (fs:List ZbK)|ed (n:Int) (fs:List ZbK) (w:Str) (ns:List Int) (es:List ZdW) (k:Nat)
noncomputable abbrev MS:=List ZaO×Stg
noncomputable def ZfM (w:Str):Nat:=if w="test" then 2 else if w="leave" then 0 else 1
noncomputable def ZfN:MS->LnR->Option MS
 | (acc,.idle),.stand n=>some (acc,.fr n [])
 | (acc,.fr n fs),.frame f=>some (acc,.fr n (fs++[f]))
 | (acc,.fr n fs),.deed w ns=>some (match ZfM w with|0=>(acc++[(n,fs,w,ns,[])],.idle)|k+1=>(acc,.ed n fs w ns [] k))
 | (acc,.ed n fs w ns es k),.edge e=>some (match k with|0=>(acc++[(n,fs,w,ns,es++[e])],.idle)|k+1=>(acc,.ed n fs w ns (es++[e]) k))
 | _,_=>none
noncomputable def mW (s:MS) (ws:List Str):Option MS:=(Zem ws).bind (ZfN s)
noncomputable def mFin:Option MS->Option (List ZaO)
 | some (l,.idle)=>some l
 | _=>none
noncomputable def Zl0 (z:Str):Option (List ZaO):=mFin ((Txt.split z feed).foldlM (fun s line=>mW s (Txt.split line Zbw)) ([],.idle))
noncomputable def pre (sts:List ZaO) (s:MS):MS:=(sts++s.1,s.2)
theorem Zkj (sts : List ZaO) (s : MS) (r : LnR) : ZfN (pre sts s) r = (ZfN s r).map (pre sts) := by
  obtain ⟨l, st⟩ := s
  cases st with
  | idle => cases r <;> rfl
  | fr n fs =>
    cases r with
    | deed w ns =>
      show some _ = some _
      cases h : ZfM w with
      | zero => simp only [pre, append_assoc]
      | succ k => rfl
    | _ => rfl
  | ed n fs w ns es k =>
    cases r with
    | edge e =>
      show some _ = some _
      cases k with
      | zero => simp only [pre, append_assoc]
      | succ k => rfl
    | _ => rfl
theorem mW_pre (sts:List ZaO) (s:MS) (ws:List Str):mW (pre sts s) ws=(mW s ws).map (pre sts):=by
 unfold mW
 cases Zem ws with
 | none=>rfl
 | some r=>exact Zkj sts s r
theorem Zjz (sts : List ZaO) : ∀ (g : List (List Str)) (s : MS), g.foldlM mW (pre sts s) = (g.foldlM mW s).map (pre sts)
  | [], s => rfl
  | ws :: g, s => by
    rw [foldlM_cons, foldlM_cons, mW_pre]
    cases mW s ws with
    | none => rfl
    | some s' => exact Zjz sts g s'
theorem Ze7 {w0:Str} {rest:List Str} {ns:List Int} (h1:w0≠ZaH) (h2:w0≠ZaY):Zfx w0 rest ns=none:=by
 unfold Zfx
 rw [if_neg fun h=>h.1.elim h1 h2]
theorem ZcE {α β:Type} {o:Option α} {f:α->Option β} (h:∀ x,f x=none):o.bind f=none:=by
 cases o with
 | none=>rfl
 | some x=>exact h x
theorem Zdq {w0:Str} {rest:List Str} (h:¬ (w0∈goW/\rest=[])):Zem (w0::rest)=((rest.take 2).mapM (ZaF 300)).bind (ZcI w0 rest):=if_neg h
theorem Zf5 {rest:List Str}:Zem (ZaL::rest)=(Zbm 1 (ZaL::rest)).bind fun ns=>ns.head?.map LnR.stand:=by
 rw [Zdq fun h=>absurd h.1 (by decide)]
 unfold Zbm
 by_cases hl:rest.length=1
 ·rw [if_pos (show (ZaL::rest).length=1+1 by rw [length_cons,hl]),take_of_length_le (by lia)]
  show _=(rest.mapM (ZaF 300)).bind _
  congr 1
  funext ns
  unfold ZcI
  rw [if_pos ⟨rfl,hl⟩]
 ·rw [if_neg (show ¬ (ZaL::rest).length=1+1 by rw [length_cons];lia)]
  refine ZcE fun ns=>?_
  unfold ZcI
  rw [if_neg fun h=>hl h.2,if_neg fun h=>absurd h.1 (by decide),Ze7 (by decide) (by decide)]
theorem ZdS {w0:Str} {rest:List Str}:Zbm 2 ((w0::rest).take 3)=if 2<=rest.length then (rest.take 2).mapM (ZaF 300) else none:=by
 unfold Zbm
 by_cases h:2<=rest.length
 ·rw [if_pos h,if_pos (by rw [length_take,length_cons];lia)]
  rfl
 ·rw [if_neg h,if_neg (by rw [length_take,length_cons];lia)]
theorem Zf6 {rest : List Str} : Zem (ZaH :: rest) = (Zb3 (ZaH :: rest)).map LnR.frame := by
  rw [Zdq fun h => absurd h.1 (by decide)]
  unfold Zb3
  rw [ZdS]
  by_cases hl : 2 <= rest.length
  · rw [if_pos hl]
    cases hm : (rest.take 2).mapM (ZaF 300) with
    | none => rfl
    | some ns =>
      show ZcI ZaH rest ns = _
      unfold ZcI Zfx
      rw [if_neg fun h => absurd h.1 (by decide), if_neg fun h => absurd h.1 (by decide), if_pos ⟨.inl rfl, hl⟩]
      show _ = Option.map LnR.frame ((both Prod.mk (some ns) ((rest.drop 2).mapM ZbT)).bind _)
      cases (rest.drop 2).mapM ZbT with
      | none => rcases ns with _ | ⟨a, _ | ⟨b, _ | ⟨c, l⟩⟩⟩ <;> rfl
      | some fs => rcases ns with _ | ⟨a, _ | ⟨b, _ | ⟨c, l⟩⟩⟩ <;> rfl
  · rw [if_neg hl]
    refine (ZcE fun ns => ?_).trans rfl
    unfold ZcI Zfx
    rw [if_neg fun h => absurd h.1 (by decide), if_neg fun h => absurd h.1 (by decide), if_neg fun h => hl h.2]
theorem Zg9 {rest : List Str} : Zem (ZaY :: rest) = (Zcv (ZaY :: rest)).map LnR.edge := by
  rw [Zdq fun h => absurd h.1 (by decide)]
  unfold Zcv
  rw [if_pos (show (ZaY :: rest).head? = some ZaY from rfl), ZdS]
  by_cases hl : 2 <= rest.length
  · rw [if_pos hl]
    cases hm : (rest.take 2).mapM (ZaF 300) with
    | none => rfl
    | some ns =>
      show ZcI ZaY rest ns = _
      unfold ZcI Zfx
      rw [if_neg fun h => absurd h.1 (by decide), if_neg fun h => absurd h.1 (by decide), if_pos ⟨.inr rfl, hl⟩]
      show _ = Option.map LnR.edge ((both Prod.mk (some ns) ((rest.drop 2).mapM ZbT)).bind _)
      cases (rest.drop 2).mapM ZbT with
      | none => rcases ns with _ | ⟨a, _ | ⟨b, _ | ⟨c, l⟩⟩⟩ <;> rfl
      | some fs => rcases ns with _ | ⟨a, _ | ⟨b, _ | ⟨c, l⟩⟩⟩ <;> rfl
  · rw [if_neg hl]
    refine (ZcE fun ns => ?_).trans rfl
    unfold ZcI Zfx
    rw [if_neg fun h => absurd h.1 (by decide), if_neg fun h => absurd h.1 (by decide), if_neg fun h => hl h.2]
theorem Zgc {w : Str} {ks : List Str} (h : deedT.lookup w = some ks) : (w, ks) ∈ deedT := by
  have : ∀ (l : List (Str × List Str)), l.lookup w = some ks -> (w, ks) ∈ l := by
    intro l
    induction l with
    | nil => intro h; cases h
    | cons q l ih =>
      intro h
      obtain ⟨a, b⟩ := q
      rw [lookup_cons] at h
      split at h
      · rename_i e
        cases h
        rw [beq_iff_eq.mp e]
        exact mem_cons_self
      · exact mem_cons_of_mem _ (ih h)
  exact this _ h
theorem Zkn {w : Str} {rest ks : List Str} (h : deedT.lookup w = some ks) : Zem (w :: rest) = (Zbm (ks.countP (· == Zbs)) (w :: rest)).map (LnR.deed w) := by
  have hm := Zgc h
  have hall : ∀ q ∈ deedT, (q.1 ∈ goW /\ q.2.countP (· == Zbs) = 0 /\ q.1 ≠ ZaL /\ q.1 ≠ ZfP /\ q.1 ≠ ZaH /\ q.1 ≠ ZaY) \/ (q.1 = ZfP /\ q.2.countP (· == Zbs) = 2) := by decide +kernel
  rcases hall _ hm with ⟨h1, h2, h3, h4, h5, h6⟩ | ⟨h1, h2⟩
  · rw [h2]
    unfold Zbm
    by_cases hr : rest = []
    · subst hr
      exact (if_pos ⟨h1, rfl⟩).trans rfl
    · rw [Zdq fun h => hr h.2, if_neg (show ¬ (w :: rest).length = 0 + 1 by
        rw [length_cons]
        have := length_pos_iff.mpr hr
        lia)]
      refine (ZcE fun ns => ?_).trans rfl
      unfold ZcI
      rw [if_neg fun h => h3 h.1, if_neg fun h => h4 h.1, Ze7 h5 h6]
  · rw [h2]
    dsimp only at h1
    subst h1
    rw [Zdq fun h => absurd h.1 (by decide)]
    unfold Zbm
    by_cases hl : rest.length = 2
    · rw [if_pos (show (ZfP :: rest).length = 2 + 1 by rw [length_cons, hl]), take_of_length_le (by lia)]
      show _ = Option.map _ (rest.mapM (ZaF 300))
      cases rest.mapM (ZaF 300) with
      | none => rfl
      | some ns =>
        show ZcI ZfP rest ns = _
        unfold ZcI
        rw [if_neg fun h => absurd h.1 (by decide), if_pos ⟨rfl, hl⟩]
        rfl
    · rw [if_neg (show ¬ (ZfP :: rest).length = 2 + 1 by rw [length_cons]; lia)]
      refine (ZcE fun ns => ?_).trans rfl
      unfold ZcI
      rw [if_neg fun h => absurd h.1 (by decide), if_neg fun h => hl h.2, Ze7 (by decide) (by decide)]
theorem Zkm {w:Str} {rest:List Str} (h:deedT.lookup w=none) (h1:w≠ZaL) (h2:w≠ZaH) (h3:w≠ZaY):Zem (w::rest)=none:=by
 have hg:w∉goW:=fun z=>by
  have hall:∀ x∈goW,(deedT.lookup x).isSome=true:=by decide +kernel
  have:=hall w z
  rw [h] at this
  cases this
 rw [Zdq fun h=>hg h.1]
 refine ZcE fun ns=>?_
 unfold ZcI
 rw [if_neg fun h=>h1 h.1,if_neg fun z=>by rw [z.1] at h;exact absurd h (by decide),Ze7 h2 h3]
theorem ZhP (s : MS) {w : Str} {r : List Str} (h : w ≠ ZaL) : (w = ZaH /\ mW s (w :: r) = (Zb3 (w :: r)).bind fun f => ZfN s (.frame f)) \/ (w = ZaY /\ mW s (w :: r) = (Zcv (w :: r)).bind fun f => ZfN s (.edge f)) \/
    (w ≠ ZaH /\ w ≠ ZaY /\ ((deedT.lookup w = none /\ mW s (w :: r) = none) \/ ∃ ks, deedT.lookup w = some ks /\ mW s (w :: r) = (Zbm (ks.countP (· == Zbs)) (w :: r)).bind fun ns => ZfN s (.deed w ns))) := by
  by_cases h1 : w = ZaH
  · subst h1
    refine .inl ⟨rfl, ?_⟩
    unfold mW
    rw [Zf6]
    cases Zb3 (ZaH :: r) <;> rfl
  by_cases h2 : w = ZaY
  · subst h2
    refine .inr (.inl ⟨rfl, ?_⟩)
    unfold mW
    rw [Zg9]
    cases Zcv (ZaY :: r) <;> rfl
  refine .inr (.inr ⟨h1, h2, ?_⟩)
  cases hk : deedT.lookup w with
  | none =>
    refine .inl ⟨rfl, ?_⟩
    unfold mW
    rw [Zkm hk h h1 h2]
    rfl
  | some ks =>
    refine .inr ⟨ks, rfl, ?_⟩
    unfold mW
    rw [Zkn hk]
    cases Zbm (ks.countP (· == Zbs)) (w :: r) <;> rfl
theorem ZhU {l:List ZaO} {w:Str} {r:List Str} (h:w≠ZaL):mW (l,.idle) (w::r)=none:=by
 rcases ZhP (l,.idle) (r:=r) h with ⟨_,e⟩|⟨_,e⟩|⟨_,_,⟨_,e⟩|⟨ks,_,e⟩⟩
 ·rw [e];exact ZcE fun _=>rfl
 ·rw [e];exact ZcE fun _=>rfl
 ·exact e
 ·rw [e];exact ZcE fun _=>rfl
theorem ed_no {l:List ZaO} {n:Int} {fs:List ZbK} {w0:Str} {ns:List Int} {es:List ZdW} {k:Nat} {w:Str} {r:List Str} (h:w≠ZaL) (h2:w≠ZaY):mW (l,.ed n fs w0 ns es k) (w::r)=none:=by
 rcases ZhP (l,.ed n fs w0 ns es k) (r:=r) h with ⟨_,e⟩|⟨e,_⟩|⟨_,_,⟨_,e⟩|⟨ks,_,e⟩⟩
 ·rw [e];exact ZcE fun _=>rfl
 ·exact absurd e h2
 ·exact e
 ·rw [e];exact ZcE fun _=>rfl
theorem go_no {l : List ZaO} {st : Stg} {r : List Str} (h : st ≠ .idle) : mW (l, st) (ZaL :: r) = none := by
  unfold mW
  rw [Zf5]
  cases Zbm 1 (ZaL :: r) with
  | none => rfl
  | some ns =>
    show (ns.head?.map LnR.stand).bind _ = none
    cases ns.head? with
    | none => rfl
    | some n =>
      cases st with
      | idle => exact absurd rfl h
      | _ => rfl
noncomputable def Tl (ws:List Str):Prop:=∃ w r,ws=w::r/\w≠ZaL
theorem Zg3 {n : Int} {fs : List ZbK} {w : Str} {ns : List Int} : ∀ (es : List (List Str)) (es0 : List ZdW) (k : Nat), (∀ ws ∈ es, Tl ws) ->
    mFin (es.foldlM mW ([], .ed n fs w ns es0 k)) = if es.length = k + 1 then (es.mapM Zcv).map fun q => [(n, fs, w, ns, es0 ++ q)] else none
  | [], es0, k, _ => by
    rw [if_neg (by simp)]
    rfl
  | ws :: es, es0, k, h => by
    obtain ⟨w1, r, rfl, h1⟩ := h ws mem_cons_self
    rw [foldlM_cons, mapM_cons]
    by_cases he : w1 = ZaY
    · subst he
      have e : mW ([], .ed n fs w ns es0 k) (ZaY :: r) = (Zcv (ZaY :: r)).bind fun f => ZfN ([], .ed n fs w ns es0 k) (.edge f) := by
        unfold mW
        rw [Zg9]
        cases Zcv (ZaY :: r) <;> rfl
      rw [e]
      cases Zcv (ZaY :: r) with
      | none => exact (ite_self _).symm
      | some q =>
        cases k with
        | zero =>
          cases es with
          | nil => rfl
          | cons ws2 es =>
            obtain ⟨w2, r2, rfl, h2⟩ := h ws2 (mem_cons_of_mem _ mem_cons_self)
            rw [if_neg (by simp)]
            show mFin ((mW (_, .idle) (w2 :: r2)).bind _) = none
            rw [ZhU h2]
            rfl
        | succ k =>
          refine (Zg3 es (es0 ++ [q]) k fun x hx => h x (mem_cons_of_mem _ hx)).trans ?_
          by_cases hl : es.length = k + 1
          · rw [if_pos hl, if_pos (show ((ZaY :: r) :: es).length = k + 1 + 1 by rw [length_cons, hl])]
            cases es.mapM Zcv with
            | none => rfl
            | some qs => simp
          · rw [if_neg hl, if_neg (show ¬ ((ZaY :: r) :: es).length = k + 1 + 1 by rw [length_cons]; lia)]
    · rw [ed_no h1 he, show Zcv (w1 :: r) = none from if_neg fun z => he (Option.some.inj z)]
      exact (ite_self _).symm
theorem Zf2 {n : Int} : ∀ (fl : List (List Str)) (fs0 : List ZbK) (dl : List (List Str)), (∀ ws ∈ fl, ZaT ws = true) -> (fl ++ dl).foldlM mW ([], .fr n fs0) = (fl.mapM Zb3).bind fun q => dl.foldlM mW ([], .fr n (fs0 ++ q))
  | [], fs0, dl, _ => by
    rw [nil_append, mapM_nil]
    show _ = List.foldlM mW ([], .fr n (fs0 ++ [])) dl
    rw [append_nil]
  | ws :: fl, fs0, dl, h => by
    obtain ⟨r, rfl⟩ : ∃ r, ws = ZaH :: r := by
      have := h ws mem_cons_self
      unfold ZaT at this
      cases ws with
      | nil => cases this
      | cons a r => exact ⟨r, by rw [Option.some.inj (beq_iff_eq.mp this)]⟩
    rw [cons_append, foldlM_cons, mapM_cons]
    have e : mW ([], .fr n fs0) (ZaH :: r) = (Zb3 (ZaH :: r)).bind fun f => some ([], .fr n (fs0 ++ [f])) := by
      unfold mW
      rw [Zf6]
      cases Zb3 (ZaH :: r) <;> rfl
    rw [e]
    cases Zb3 (ZaH :: r) with
    | none => rfl
    | some f =>
      refine (Zf2 fl (fs0 ++ [f]) dl fun x hx => h x (mem_cons_of_mem _ hx)).trans ?_
      cases fl.mapM Zb3 with
      | none => rfl
      | some q =>
        show List.foldlM mW ([], .fr n (fs0 ++ [f] ++ q)) dl = List.foldlM mW ([], .fr n (fs0 ++ (f :: q))) dl
        rw [append_assoc]
        rfl
theorem Zln {n : Int} {fs : List ZbK} : ∀ (dl : List (List Str)), (∀ ws ∈ dl, Tl ws) -> (∀ ws, dl.head? = some ws -> ZaT ws = false) -> mFin (dl.foldlM mW ([], .fr n fs)) = (match dl with
    | [] => none
    | d :: es => (ZdV d es).map fun q => [(n, fs, q)])
  | [], _, _ => rfl
  | d :: es, h, hf => by
    obtain ⟨w, r, rfl, h1⟩ := h d mem_cons_self
    have hnf : w ≠ ZaH := fun z => by
      have := hf _ rfl
      rw [z] at this
      revert this
      unfold ZaT
      simp
    have ht : ∀ ws ∈ es, Tl ws := fun x hx => h x (mem_cons_of_mem _ hx)
    rw [foldlM_cons]
    show _ = (ZdV (w :: r) es).map _
    unfold ZdV
    rcases ZhP ([], .fr n fs) (r := r) h1 with ⟨e, _⟩ | ⟨e, e2⟩ | ⟨_, _, ⟨e, e2⟩ | ⟨ks, e, e2⟩⟩
    · exact absurd e hnf
    · rw [e2, e]
      have : deedT.lookup ZaY = none := by decide
      dsimp only
      rw [this]
      cases Zcv (ZaY :: r) <;> rfl
    · rw [e2]
      dsimp only
      rw [e]
      rfl
    · rw [e2]
      dsimp only
      rw [e]
      dsimp only
      have hk : ∀ q ∈ deedT, q.2.countP (· == ZaY) = ZfM q.1 := by decide +kernel
      rw [hk _ (Zgc e)]
      cases Zbm (ks.countP (· == Zbs)) (w :: r) with
      | none => rfl
      | some ns =>
        show mFin ((some (match ZfM w with | 0 => ([] ++ [(n, fs, w, ns, [])], Stg.idle) | k + 1 => ([], .ed n fs w ns [] k))).bind fun s => es.foldlM mW s) = Option.map _ (if es.length = ZfM w then _ else none)
        cases ZfM w with
        | zero =>
          cases es with
          | nil => rfl
          | cons ws2 es =>
            obtain ⟨w2, r2, rfl, h2⟩ := ht ws2 mem_cons_self
            rw [if_neg (by simp)]
            show mFin ((mW (_, .idle) (w2 :: r2)).bind _) = none
            rw [ZhU h2]
            rfl
        | succ k =>
          refine (Zg3 es [] k ht).trans ?_
          by_cases hl : es.length = k + 1
          · rw [if_pos hl, if_pos hl]
            cases es.mapM Zcv <;> rfl
          · rw [if_neg hl, if_neg hl]
            rfl
theorem ZjA {r : List Str} {rest : List (List Str)} (h : ∀ ws ∈ rest, Tl ws) : mFin (((ZaL :: r) :: rest).foldlM mW ([], .idle)) = (Zbv ((ZaL :: r) :: rest)).map fun st => [st] := by
  rw [foldlM_cons]
  have e : mW ([], .idle) (ZaL :: r) = (Zbm 1 (ZaL :: r)).bind fun ns => ns.head?.bind fun n => some ([], .fr n []) := by
    unfold mW
    rw [Zf5]
    cases Zbm 1 (ZaL :: r) with
    | none => rfl
    | some ns => cases ns <;> rfl
  rw [e]
  unfold Zbv
  dsimp only
  cases hn : Zbm 1 (ZaL :: r) with
  | none => rfl
  | some ns =>
    obtain ⟨n, rfl⟩ := Ziu hn
    show mFin (rest.foldlM mW ([], .fr n [])) = Option.map _ (Zff n (rest.takeWhile ZaT) (rest.dropWhile ZaT))
    have es : rest.takeWhile ZaT ++ rest.dropWhile ZaT = rest := takeWhile_append_dropWhile
    have h1 : ∀ ws ∈ rest.takeWhile ZaT, ZaT ws = true := fun ws hw => all_eq_true.mp all_takeWhile ws hw
    have h2 : ∀ ws ∈ rest.dropWhile ZaT, Tl ws := fun ws hw => h ws ((dropWhile_sublist ZaT).subset hw)
    have h3 : ∀ ws, (rest.dropWhile ZaT).head? = some ws -> ZaT ws = false := fun ws hw => by
      have := head?_dropWhile_not ZaT rest
      rw [hw] at this
      simpa using this
    rw [<- congrArg (fun l => List.foldlM mW (([], .fr n []) : MS) l) es]
    generalize rest.takeWhile ZaT = fl at h1
    generalize rest.dropWhile ZaT = dl at h2 h3
    rw [Zf2 fl [] dl h1]
    cases hf : fl.mapM Zb3 with
    | none => cases dl <;> (unfold Zff; rw [hf]; rfl)
    | some q =>
      refine (Zln dl h2 h3).trans ?_
      cases dl with
      | nil => rfl
      | cons d es =>
        unfold Zff
        rw [hf]
        dsimp only
        cases ZdV d es <;> rfl
noncomputable def GrOk (g:List (List Str)):Prop:=∃ r rest,g=(ZaL::r)::rest/\∀ ws∈rest,Tl ws
theorem Zf1 : ∀ (gs : List (List (List Str))) (sts : List ZaO), (∀ g ∈ gs, GrOk g) -> mFin (gs.flatten.foldlM mW (sts, .idle)) = (gs.mapM Zbv).map fun q => sts ++ q
  | [], sts, _ => by
    show some sts = some (sts ++ [])
    rw [append_nil]
  | g :: gs, sts, h => by
    obtain ⟨r, rest, eg, ht⟩ := h g mem_cons_self
    have A := ZjA (r := r) ht
    rw [<- eg] at A
    have hp : g.foldlM mW (sts, .idle) = (g.foldlM mW ([], .idle)).map (pre sts) := by
      have := Zjz sts g ([], .idle)
      rwa [show pre sts ([], .idle) = (sts, .idle) from by unfold pre; rw [append_nil]] at this
    rw [flatten_cons, foldlM_append, hp, mapM_cons]
    cases hr : g.foldlM mW ([], .idle) with
    | none =>
      rw [hr] at A
      cases hs : Zbv g with
      | none => rfl
      | some st => rw [hs] at A; cases A
    | some s =>
      obtain ⟨l, st⟩ := s
      rw [hr] at A
      by_cases hi : st = .idle
      · subst hi
        cases hs : Zbv g with
        | none => rw [hs] at A; cases A
        | some q =>
          rw [hs] at A
          cases A
          refine (Zf1 gs (sts ++ [q]) fun x hx => h x (mem_cons_of_mem _ hx)).trans ?_
          cases gs.mapM Zbv with
          | none => rfl
          | some qs => simp
      · have hn : Zbv g = none := by
          cases hs : Zbv g with
          | none => rfl
          | some q =>
            rw [hs] at A
            cases st with
            | idle => exact absurd rfl hi
            | fr _ _ => cases A
            | ed _ _ _ _ _ _ => cases A
        rw [hn]
        cases gs with
        | nil =>
          cases st with
          | idle => exact absurd rfl hi
          | fr _ _ => rfl
          | ed _ _ _ _ _ _ => rfl
        | cons g2 gs =>
          obtain ⟨r2, rest2, rfl, _⟩ := h g2 (mem_cons_of_mem _ mem_cons_self)
          show mFin ((mW (pre sts (l, st)) (ZaL :: r2)).bind _) = none
          rw [show mW (pre sts (l, st)) (ZaL :: r2) = none from go_no hi]
          rfl
theorem ZfA : ∀ (ls : List (List Str)) (acc : List (List (List Str))), (∀ ws ∈ ls, ws ≠ []) -> (∀ g ∈ acc, GrOk g) ->
    (∀ gs, ls.foldlM ZdA acc = some gs -> (∀ g ∈ gs, GrOk g) /\ gs.flatten = acc.flatten ++ ls) /\ (ls.foldlM ZdA acc = none -> acc = [] /\ ∃ w r ls', ls = (w :: r) :: ls' /\ w ≠ ZaL)
  | [], acc, _, ha => by
    refine ⟨fun gs h => ?_, fun h => by cases h⟩
    cases h
    exact ⟨ha, by rw [append_nil]⟩
  | ws :: ls, acc, hn, ha => by
    have hn' : ∀ ws ∈ ls, ws ≠ [] := fun x hx => hn x (mem_cons_of_mem _ hx)
    obtain ⟨w, r, rfl⟩ : ∃ w r, ws = w :: r := by
      cases ws with
      | nil => exact absurd rfl (hn [] mem_cons_self)
      | cons w r => exact ⟨w, r, rfl⟩
    rw [foldlM_cons]
    by_cases hw : w = ZaL
    · subst hw
      rw [show ZdA acc (ZaL :: r) = some (acc ++ [[ZaL :: r]]) from if_pos rfl]
      obtain ⟨i1, i2⟩ := ZfA ls (acc ++ [[ZaL :: r]]) hn' (fun g hg => by
        rcases mem_append.mp hg with hg | hg
        · exact ha g hg
        · rw [mem_singleton.mp hg]
          exact ⟨r, [], rfl, fun x hx => by cases hx⟩)
      refine ⟨fun gs h => ?_, fun h => ?_⟩
      · obtain ⟨j1, j2⟩ := i1 gs h
        exact ⟨j1, by rw [j2]; simp⟩
      · have := (i2 h).1
        simp at this
    · have hh : ¬ (w :: r).head? = some ZaL := fun z => hw (Option.some.inj z)
      by_cases he : acc = []
      · refine ⟨fun gs h => ?_, fun _ => ⟨he, w, r, ls, rfl, hw⟩⟩
        rw [show ZdA acc (w :: r) = none from (if_neg hh).trans (if_pos he)] at h
        cases h
      · rw [show ZdA acc (w :: r) = some (addG acc (w :: r)) from (if_neg hh).trans (if_neg he)]
        obtain ⟨init, g, rfl⟩ : ∃ init g, acc = init ++ [g] := ⟨acc.dropLast, acc.getLast he, (dropLast_concat_getLast he).symm⟩
        rw [ZfK]
        obtain ⟨i1, i2⟩ := ZfA ls (init ++ [g ++ [w :: r]]) hn' (fun x hx => by
          rcases mem_append.mp hx with hx | hx
          · exact ha x (mem_append_left _ hx)
          · rw [mem_singleton.mp hx]
            obtain ⟨r0, rest, rfl, ht⟩ := ha g (mem_append_right _ mem_cons_self)
            refine ⟨r0, rest ++ [w :: r], rfl, fun y hy => ?_⟩
            rcases mem_append.mp hy with hy | hy
            · exact ht y hy
            · rw [mem_singleton.mp hy]
              exact ⟨w, r, rfl, hw⟩)
        refine ⟨fun gs h => ?_, fun h => ?_⟩
        · obtain ⟨j1, j2⟩ := i1 gs h
          exact ⟨j1, by rw [j2]; simp⟩
        · have := (i2 h).1
          simp at this
theorem ZnY (z : Str) : Zl0 z = ZdC z := by
  unfold Zl0 ZdC ZgA
  have e1 : (Txt.split z feed).foldlM (fun s line => mW s (Txt.split line Zbw)) (([], .idle) : MS) = ((Txt.split z feed).map fun line => Txt.split line Zbw).foldlM mW ([], .idle) := by
    rw [foldlM_map]
  have e2 : (Txt.split z feed).foldlM ZcS [] = ((Txt.split z feed).map fun line => Txt.split line Zbw).foldlM ZdA [] := by
    rw [foldlM_map]
    rfl
  rw [e1, e2]
  have hn : ∀ ws ∈ (Txt.split z feed).map (fun line => Txt.split line Zbw), ws ≠ [] := fun ws h => by
    obtain ⟨l, _, rfl⟩ := mem_map.mp h
    exact ZbV _ _
  generalize (Txt.split z feed).map (fun line => Txt.split line Zbw) = ls at hn
  obtain ⟨g1, g2⟩ := ZfA ls [] hn (fun g hg => by cases hg)
  cases hg : ls.foldlM ZdA [] with
  | none =>
    obtain ⟨_, w, r, ls', rfl, hw⟩ := g2 hg
    rw [foldlM_cons, ZhU hw]
    rfl
  | some gs =>
    obtain ⟨j1, j2⟩ := g1 gs hg
    have := Zf1 gs [] j1
    rw [j2] at this
    refine this.trans ?_
    show _ = gs.mapM Zbv
    cases gs.mapM Zbv <;> rfl
noncomputable abbrev Ent:=Int×List ZbK×D
inductive EntAt (H:Hp) (e:Ent) (v:V) (l:Addr):Prop
 | mk (t ys vd) (_:v=.ref t) (_:H t=some (.tup [.int e.1,.ref l,vd])) (_:H l=some (.lst ys)) (_:Reps H (e.2.1.map Zcp) ys) (_:Rep H e.2.2 vd):EntAt H e v l
theorem EntAt.mono {H H':Hp} {e:Ent} {v:V} {l:Addr} (h:EntAt H e v l) (s:Same H H'):EntAt H' e v l:=by
 obtain ⟨t,ys,vd,h1,h2,h3,h4,h5⟩:=h
 exact ⟨t,ys,vd,h1,s _ _ h2,s _ _ h3,h4.mono s.ts,h5.mono s.ts⟩
theorem EntAt.wr {H:Hp} {e:Ent} {v:V} {l a:Addr} {xs:List V} {o:HO} (h:EntAt H e v l) (ha:H a=some (.lst xs)) (n:l≠a):EntAt (upd H a o) e v l:=by
 obtain ⟨t,ys,vd,h1,h2,h3,h4,h5⟩:=h
 have tw:TSame H (upd H a o):=TSame.wr fun zs z=>by rw [ha] at z;cases z
 exact ⟨t,ys,vd,h1,tw _ _ h2,by rw [Zat n];exact h3,h4.mono tw,h5.mono tw⟩
structure LdI (H Hx:Hp) (q:Addr) (es:List Ent) (vs:List V) (ls:List Addr):Prop where
 sm:Same H Hx
 hq:Hx q=some (.lst vs)
 nq:H q=none
 nl:∀ l∈ls,H l=none/\l≠q
 nd:ls.Nodup
 le:es.length=vs.length
 ll:es.length=ls.length
 at':∀ (i:Nat) e v l,es[i]?=some e->vs[i]?=some v->ls[i]?=some l->EntAt Hx e v l
theorem LdI.mono {H Hx Hy:Hp} {q:Addr} {es:List Ent} {vs:List V} {ls:List Addr} (I:LdI H Hx q es vs ls) (s:Same Hx Hy):LdI H Hy q es vs ls :=
 ⟨I.sm.trans s,s _ _ I.hq,I.nq,I.nl,I.nd,I.le,I.ll,fun i e v l h1 h2 h3=>(I.at' i e v l h1 h2 h3).mono s⟩
theorem LdI.has {H Hx:Hp} {q:Addr} {es:List Ent} {vs:List V} {ls:List Addr} (I:LdI H Hx q es vs ls) {l:Addr} (h:l∈ls):∃ ys,Hx l=some (.lst ys):=by
 obtain ⟨i,hi,e⟩:=mem_iff_getElem.mp h
 have h1:i < es.length:=by rw [I.ll];exact hi
 have h2:i < vs.length:=by rw [<-I.le];exact h1
 obtain ⟨t,ys,vd,_,_,h3,_⟩:=I.at' i _ _ l (getElem?_eq_getElem h1) (getElem?_eq_getElem h2) (by rw [getElem?_eq_getElem hi,e])
 exact ⟨ys,h3⟩
theorem ZcT {α:Type} {l:List α} {x y:α} {i:Nat} (h:(l++[x])[i]?=some y):l[i]?=some y\/(i=l.length/\y=x):=by
 rcases Nat.lt_trichotomy i l.length with hi|hi|hi
 ·rw [getElem?_append_left hi] at h
  exact .inl h
 ·subst hi
  rw [getElem?_append_right (Nat.le_refl _)] at h
  simp at h
  exact .inr ⟨rfl,h.symm⟩
 ·rw [getElem?_eq_none (by rw [length_append];simp;lia)] at h
  cases h
theorem LdI.push {H Hx Hy:Hp} {q l t e0:Addr} {es:List Ent} {vs:List V} {ls:List Addr} {n:Int} (I:LdI H Hx q es vs ls) (s:Same Hx Hy) (nl:Hx l=none) (hl:Hy l=some (.lst [])) (he:Hy e0=some (.tup [])) (ht:Hy t=some (.tup [.int n,.ref l,.ref e0])) :
  LdI H (upd Hy q (.lst (vs++[.ref t]))) q (es++[(n,[],.tup [])]) (vs++[.ref t]) (ls++[l]):=by
 have J:=I.mono s
 have nlq:l≠q:=fun z=>by rw [z,I.hq] at nl;cases nl
 have tw:TSame Hy (upd Hy q (.lst (vs++[.ref t]))):=TSame.wr fun zs z=>by rw [J.hq] at z;cases z
 refine ⟨J.sm.wrF I.nq,Zad,I.nq,fun x hx=>?_,?_,by rw [length_append,length_append,I.le];rfl,by rw [length_append,length_append,I.ll];rfl,fun i e v x h1 h2 h3=>?_⟩
 ·rcases mem_append.mp hx with hx|hx
  ·exact I.nl x hx
  ·rw [mem_singleton.mp hx]
   exact ⟨I.sm.free nl,nlq⟩
 ·refine nodup_append.mpr ⟨I.nd,by simp,fun a ha b hb=>?_⟩
  rw [mem_singleton.mp hb]
  intro z
  obtain ⟨ys,hy⟩:=I.has ha
  rw [z,nl] at hy
  cases hy
 ·rcases ZcT h1 with h1|⟨rfl,rfl⟩
  ·have hi:i < es.length:=(List.getElem?_eq_some_iff.mp h1).1
   rw [getElem?_append_left (by rw [<-I.le];exact hi)] at h2
   rw [getElem?_append_left (by rw [<-I.ll];exact hi)] at h3
   exact (J.at' i e v x h1 h2 h3).wr J.hq (I.nl x (mem_of_getElem? h3)).2
  ·rcases ZcT h2 with h2|⟨_,rfl⟩
   ·rw [getElem?_eq_none (by rw [I.le];exact Nat.le_refl _)] at h2
    cases h2
   ·rcases ZcT h3 with h3|⟨_,rfl⟩
    ·rw [getElem?_eq_none (by rw [I.ll];exact Nat.le_refl _)] at h3
     cases h3
    ·exact ⟨t,[],.ref e0,rfl,tw _ _ ht,by rw [Zat nlq];exact hl,Zaq,ZaZ (tw _ _ he) Zaq⟩
theorem LdI.grow {H Hx:Hp} {q l:Addr} {es0:List Ent} {vs ys:List V} {ls0:List Addr} {n:Int} {fs:List ZbK} {d:D} {f:ZbK} {y:V} (I:LdI H Hx q (es0++[(n,fs,d)]) vs (ls0++[l])) (hl:Hx l=some (.lst ys)) (rs:Reps Hx (fs.map Zcp) ys) (ry:Rep Hx (Zcp f) y) :
  LdI H (upd Hx l (.lst (ys++[y]))) q (es0++[(n,fs++[f],d)]) vs (ls0++[l]):=by
 obtain ⟨nl,nlq⟩:=I.nl l (mem_append_right _ mem_cons_self)
 have tw:TSame Hx (upd Hx l (.lst (ys++[y]))):=TSame.wr fun zs z=>by rw [hl] at z;cases z
 have l1:es0.length=ls0.length:=by
  have:=I.ll
  rw [length_append,length_append] at this
  exact Nat.add_right_cancel this
 refine ⟨I.sm.wrF nl,by rw [Zat nlq.symm];exact I.hq,I.nq,I.nl,I.nd,by rw [<-I.le,length_append,length_append];rfl,by rw [<-I.ll,length_append,length_append];rfl,fun i e v x h1 h2 h3=>?_⟩
 rcases ZcT h1 with h1|⟨rfl,rfl⟩
 ·have hi:i < es0.length:=(List.getElem?_eq_some_iff.mp h1).1
  have h3':=h3
  rw [getElem?_append_left (by rw [<-l1];exact hi)] at h3'
  refine (I.at' i e v x (by rw [getElem?_append_left hi];exact h1) h2 h3).wr hl fun z=>?_
  have:=(nodup_append.mp I.nd).2.2 x (mem_of_getElem? h3') l mem_cons_self
  exact this z
 ·have h3':x=l:=by
   rcases ZcT h3 with h3|⟨_,h3⟩
   ·rw [getElem?_eq_none (by rw [l1];exact Nat.le_refl _)] at h3
    cases h3
   ·exact h3
  subst h3'
  obtain ⟨t,ys',vd,k1,k2,k3,k4,k5⟩:=I.at' es0.length (n,fs,d) v x (by rw [getElem?_append_right (Nat.le_refl _)];simp) h2 h3
  rw [hl] at k3
  cases k3
  refine ⟨t,ys++[y],vd,k1,tw _ _ k2,Zad,?_,k5.mono tw⟩
  show Reps _ ((fs++[f]).map Zcp) _
  rw [map_append]
  exact Reps.append (rs.mono tw) (Zai (ry.mono tw) Zaq)
theorem LdI.swap {H Hx Hy:Hp} {q l t:Addr} {es0:List Ent} {vs0:List V} {v0 vd:V} {ls0:List Addr} {n:Int} {fs:List ZbK} {d d':D} (I:LdI H Hx q (es0++[(n,fs,d)]) (vs0++[v0]) (ls0++[l])) (s:Same Hx Hy) (ht:Hy t=some (.tup [.int n,.ref l,vd])) (rd:Rep Hy d' vd) :
  LdI H (upd Hy q (.lst (vs0++[.ref t]))) q (es0++[(n,fs,d')]) (vs0++[.ref t]) (ls0++[l]):=by
 have J:=I.mono s
 have tw:TSame Hy (upd Hy q (.lst (vs0++[.ref t]))):=TSame.wr fun zs z=>by rw [J.hq] at z;cases z
 have l1:es0.length=ls0.length:=by
  have:=I.ll
  rw [length_append,length_append] at this
  exact Nat.add_right_cancel this
 have l2:es0.length=vs0.length:=by
  have:=I.le
  rw [length_append,length_append] at this
  exact Nat.add_right_cancel this
 refine ⟨J.sm.wrF I.nq,Zad,I.nq,I.nl,I.nd,by rw [length_append,length_append,l2];rfl,by rw [<-I.ll,length_append,length_append];rfl,fun i e v x h1 h2 h3=>?_⟩
 rcases ZcT h1 with h1|⟨rfl,rfl⟩
 ·have hi:i < es0.length:=(List.getElem?_eq_some_iff.mp h1).1
  rw [getElem?_append_left (by rw [<-l2];exact hi)] at h2
  exact (J.at' i e v x (by rw [getElem?_append_left hi];exact h1) (by rw [getElem?_append_left (by rw [<-l2];exact hi)];exact h2) h3).wr J.hq (I.nl x (mem_of_getElem? h3)).2
 ·have h2':v=.ref t:=by
   rcases ZcT h2 with h2|⟨_,h2⟩
   ·rw [getElem?_eq_none (by rw [l2];exact Nat.le_refl _)] at h2
    cases h2
   ·exact h2
  subst h2'
  have h3':x=l:=by
   rcases ZcT h3 with h3|⟨_,h3⟩
   ·rw [getElem?_eq_none (by rw [l1];exact Nat.le_refl _)] at h3
    cases h3
   ·exact h3
  subst h3'
  obtain ⟨t0,ys,vd0,k1,k2,k3,k4,k5⟩:=J.at' es0.length (n,fs,d) v0 x (by rw [getElem?_append_right (Nat.le_refl _)];simp) (by rw [l2,getElem?_append_right (Nat.le_refl _)];simp) h3
  exact ⟨t,ys,vd,rfl,tw _ _ ht,by rw [Zat (I.nl x (mem_append_right _ mem_cons_self)).2];exact k3,k4.mono tw,rd.mono tw⟩
theorem LdI.last {H Hx:Hp} {q:Addr} {es0:List Ent} {e:Ent} {vs:List V} {ls:List Addr} (I:LdI H Hx q (es0++[e]) vs ls):∃ vs0 v0 ls0 l,vs=vs0++[v0]/\ls=ls0++[l]/\EntAt Hx e v0 l:=by
 have h1:vs≠[]:=fun z=>by
  have:=I.le
  rw [z,length_append] at this
  simp at this
 have h2:ls≠[]:=fun z=>by
  have:=I.ll
  rw [z,length_append] at this
  simp at this
 have e1:=(dropLast_concat_getLast h1).symm
 have e2:=(dropLast_concat_getLast h2).symm
 refine ⟨vs.dropLast,vs.getLast h1,ls.dropLast,ls.getLast h2,e1,e2,I.at' es0.length e _ _ (by rw [getElem?_append_right (Nat.le_refl _)];simp) ?_ ?_⟩
 ·have l1:es0.length=vs.dropLast.length:=by
   have:=I.le
   rw [length_append] at this
   rw [length_dropLast]
   simp at this
   lia
  conv=>lhs;rw [e1]
  rw [l1,getElem?_append_right (Nat.le_refl _)]
  simp
 ·have l1:es0.length=ls.dropLast.length:=by
   have:=I.ll
   rw [length_append] at this
   rw [length_dropLast]
   simp at this
   lia
  conv=>lhs;rw [e2]
  rw [l1,getElem?_append_right (Nat.le_refl _)]
  simp
noncomputable def toE (st:ZaO):Ent:=(st.1,st.2.1,ZdM st.2.2)
noncomputable def ZeX:Stg->Int
 | .idle=>0
 | .fr _ _=>-1
 | .ed _ _ _ _ _ k=>(k:Int)+1
noncomputable def ents:MS->List Ent
 | (acc,.idle)=>acc.map toE
 | (acc,.fr n fs)=>acc.map toE++[(n,fs,.tup [])]
 | (acc,.ed n fs w ns es _)=>acc.map toE++[(n,fs,ZdM (w,ns,es))]
noncomputable def frN:Stg->Nat
 | .fr _ fs=>fs.length
 | _=>0
noncomputable def edN:Stg->Nat
 | .ed _ _ _ ns es _=>ns.length+es.length
 | _=>0
noncomputable def kdW:LnR->Str
 | .deed _ _=>"deed"
 | .stand _=>"stand"
 | .frame _=>"frame"
 | .edge _=>"edge"
noncomputable def lnV:LnR->D
 | .deed w ns=>.tup (.str w::ns.map D.int)
 | .stand n=>.int n
 | .frame f=>Zcp f
 | .edge e=>ZcY e
theorem lnD_eq (r:LnR):lnD r=.tup [.str (kdW r),lnV r]:=by cases r <;> rfl
theorem ZlO (s : MS) (r : LnR) (h1 : ¬ (ZeX s.2 = -1 /\ kdW r ∈ (["stand", "edge"] : List Str))) (h2 : ¬ (0 < ZeX s.2 /\ kdW r ≠ "edge")) (h3 : ¬ (ZeX s.2 = 0 /\ kdW r ≠ "stand")) : ∃ s', ZfN s r = some s' := by
  obtain ⟨acc, st⟩ := s
  cases st with
  | idle =>
    cases r with
    | stand n => exact ⟨_, rfl⟩
    | _ => exact absurd ⟨rfl, by simp only [kdW]; decide⟩ h3
  | fr n fs =>
    cases r with
    | stand n => exact absurd ⟨rfl, by simp only [kdW]; decide⟩ h1
    | edge e => exact absurd ⟨rfl, by simp only [kdW]; decide⟩ h1
    | deed w ns => exact ⟨_, rfl⟩
    | frame f => exact ⟨_, rfl⟩
  | ed n fs w ns es k =>
    cases r with
    | edge e => exact ⟨_, rfl⟩
    | _ => exact absurd ⟨(by show (0 : Int) < (k : Int) + 1; lia), by simp only [kdW]; decide⟩ h2
theorem Zgj (s : MS) (r : LnR) (h : (ZeX s.2 = -1 /\ kdW r ∈ (["stand", "edge"] : List Str)) \/ (0 < ZeX s.2 /\ kdW r ≠ "edge") \/ (ZeX s.2 = 0 /\ kdW r ≠ "stand")) : ZfN s r = none := by
  obtain ⟨acc, st⟩ := s
  cases st with
  | idle =>
    rcases h with ⟨h, _⟩ | ⟨h, _⟩ | ⟨_, h⟩
    · exact absurd h (by show ¬ (0 : Int) = -1; decide)
    · exact absurd h (by show ¬ (0 : Int) < 0; decide)
    · cases r with
      | stand n => exact absurd rfl h
      | _ => rfl
  | fr n fs =>
    rcases h with ⟨_, h⟩ | ⟨h, _⟩ | ⟨h, _⟩
    · cases r with
      | stand n => rfl
      | edge e => rfl
      | deed w ns => exact absurd h (by simp only [kdW]; decide)
      | frame f => exact absurd h (by simp only [kdW]; decide)
    · exact absurd h (by show ¬ (0 : Int) < -1; decide)
    · exact absurd h (by show ¬ (-1 : Int) = 0; decide)
  | ed n fs w ns es k =>
    rcases h with ⟨h, _⟩ | ⟨_, h⟩ | ⟨h, _⟩
    · exact absurd h (by show ¬ (k : Int) + 1 = -1; lia)
    · cases r with
      | edge e => exact absurd rfl h
      | _ => rfl
    · exact absurd h (by show ¬ (k : Int) + 1 = 0; lia)
theorem Zga {α β : Type} {f : β -> α -> Option β} : ∀ {l : List α} {b : β} (i : Nat), (l.take i).foldlM f b = none -> l.foldlM f b = none
  | [], b, i, h => by rwa [take_nil] at h
  | x :: l, b, 0, h => by cases h
  | x :: l, b, i + 1, h => by
    rw [take_succ_cons, foldlM_cons] at h
    rw [foldlM_cons]
    cases hx : f b x with
    | none => rfl
    | some b' =>
      rw [hx] at h
      exact Zga i h
theorem Zi5 {α β:Type} {f:β->α->Option β} {l:List α} {b s:β} {i:Nat} {x:α} (hx:l[i]?=some x) (h:(l.take i).foldlM f b=some s):(l.take (i+1)).foldlM f b=f s x:=by
 rw [take_add_one,hx,foldlM_append,h]
 show (f s x).bind pure=f s x
 cases f s x <;> rfl
theorem Zmf {ws : List Str} {w : Str} {ns : List Int} (h : Zem ws = some (.deed w ns)) : ns.length <= 2 := by
  cases ws with
  | nil => cases h
  | cons w0 rest =>
    by_cases hg : w0 ∈ goW /\ rest = []
    · rw [show Zem (w0 :: rest) = some (.deed w0 []) from if_pos hg] at h
      cases h
      exact Nat.zero_le _
    · rw [Zdq hg] at h
      cases hm : (rest.take 2).mapM (ZaF 300) with
      | none => rw [hm] at h; cases h
      | some ms =>
        rw [hm] at h
        have hl : ms.length <= 2 := by rw [(Zck hm).1.symm, length_take]; lia
        have h : ZcI w0 rest ms = some (.deed w ns) := h
        unfold ZcI at h
        by_cases h1 : w0 = ZaL /\ rest.length = 1
        · rw [if_pos h1] at h
          cases ms with
          | nil => cases h
          | cons a l => cases h
        · rw [if_neg h1] at h
          by_cases h2 : w0 = ZfP /\ rest.length = 2
          · rw [if_pos h2] at h
            cases h
            exact hl
          · rw [if_neg h2] at h
            unfold Zfx at h
            by_cases h3 : (w0 = ZaH \/ w0 = ZaY) /\ 2 <= rest.length
            · rw [if_pos h3] at h
              exfalso
              split at h
              · split at h <;> cases h
              · cases h
            · rw [if_neg h3] at h
              cases h
theorem Zhe {n:Nat}:ixN (n+1) (-1)=some n:=by
 unfold ixN
 rw [if_neg (by lia),if_pos (by lia)]
 congr 1
 lia
inductive Pr_lane_of (x:V) (H:Hp) (Q:VK):Prop
 | mk (z) (_:x=.str z) (_:z.length<=900000) (_:Zbd z) (_:∀ sts p ys H',ZdC z=some sts->H' p=some (.lst ys)->SAll H' sts ys->Same H H'->Q (.ref p) H') (_:ZdC z=none->∀ H',Same H H'->Q .non H'):Pr_lane_of x H Q
noncomputable def ZiR:Sp:=sp1 (Pr_lane_of)
theorem sc__law_lane_of:FnScope ["text","lane","wait","line","found"] ["text"] (Zam Zca):=⟨rfl,rfl,rfl,by decide +kernel,rfl,by decide +kernel,by decide +kernel⟩
theorem ZfS (B : Blt mg) (T__law_lane_of : TopFn K mg "_law_lane_of" Zca ["text"]) (Zdx : Callee P w K mg base "_law_line_of" 3 ["line"] ZfX) : Callee P w K mg base "_law_lane_of" 4 ["text"] ZiR := by
  refine T__law_lane_of.ok1 sc__law_lane_of fun f cdv A outer s H v1 Q E hr h => ?_
  have nd := sc__law_lane_of.nd
  have hu1 := hu_of hr
  obtain ⟨z, rfl, hz, az, k, no⟩ := h
  refine' Zbl [some (.str z), none, none, none, none] rfl ?hb ?hg
  case' hb => refine' Zae ?bab ?bac
  case bab => exact (Zcm (i := 1) nd rfl (Or.inl rfl) (Zba Zab))
  case' bac => refine' Zae ?bad ?bae
  case bad => exact (Zc2 (i := 2) nd rfl (Or.inl rfl) Zaa)
  case' bae => refine' Zae ?baf ?bag
  case' baf => refine' Zch ?bah ?bai ?baj ?bak ?bal
  case bah => exact PassesOwn.never
  case bai => exact rfl
  case' baj => refine' Za4 (K := K) ?bam ?ban
  case bam => exact rfl
  case ban => exact (k_bm (K := K) rfl PySem.F.plainAttrs_str PySem.F.slot_str_split PySem.F.type_str_split Zb1 (pv 0) (Zaf Zak Zab))
  case bak => exact (ZaE (i := 3) nd rfl (Or.inl rfl))
  case' bal => refine' Zae ?bao ?bap
  case bao => exact (Zbk (i := 4) nd rfl (Or.inl rfl) (Za7 Zdx (hr.mono (by first | decide | lia)) (by rfl) (Zac (pv 3) Zab)))
  case' bap => refine' Zae ?baq ?bar
  case' baq => refine' Za1 ?bas ?bat ?bau
  case' bas => refine' PW.pt ?bav
  case' bav => refine' ZeZ ?baw ?bax
  case baw => exact (Zal Zfv (pv 4) ZbZ (Zas _))
  case' bax => refine' Zeg ?bay
  case' bay => refine' PW.pt ?baz
  case' baz => refine' ZcP ?bba ?bbb
  case bba => exact (Zal Zbc (pv 2) (ZdF Zce Zaa) (Zas _))
  case' bbb => refine' ZbX ?bbc
  case' bbc => refine' Zal ?bbd ?bbe ?bbf ?bbg
  case bbd => exact (k_in (K := K) rfl)
  case bbe => exact (Zao (k_ix (K := K) rfl) (pv 4) Zaa (fun _ _ => rfl))
  case bbf => exact (Zba (Zaf Zak (Zaf Zak Zab)))
  case bbg => exact (by with_unfolding_all rfl)
  case bat => exact (Zag (ZaD ZbZ))
  case bau => exact Zaz
  case' bar => refine' Zae ?bbh ?bbi
  case' bbh => refine' Za1 ?bbj ?bbk ?bbl
  case' bbj => refine' PW.pt ?bbm
  case' bbm => refine' ZeZ ?bbn ?bbo
  case' bbn => refine' PW.pt ?bbp
  case' bbp => refine' ZcP ?bbq ?bbr
  case bbq => exact (Zal ZnT (pv 2) Zaa (Zas _))
  case bbr => exact (ZbX (Zal Ze0 (Zao (k_ix (K := K) rfl) (pv 4) Zaa (fun _ _ => rfl)) Zak (Zas _)))
  case' bbo => refine' Zeg ?bbs
  case' bbs => refine' PW.pt ?bbt
  case' bbt => refine' ZcP ?bbu ?bbv
  case bbu => exact (Zal Zbc (pv 2) Zaa (Zas _))
  case bbv => exact (ZbX (Zal Ze0 (Zao (k_ix (K := K) rfl) (pv 4) Zaa (fun _ _ => rfl)) Zak (Zas _)))
  case bbk => exact (Zag (ZaD ZbZ))
  case bbl => exact Zaz
  case' bbi => refine' Zag ?bbw
  case' bbw => refine' Za1 ?bbx ?bby ?bbz
  case bbx => exact (Zal Zbc (Zao (k_ix (K := K) rfl) (pv 4) Zaa (fun _ _ => rfl)) Zak (Zas _))
  case' bby => refine' Zae ?bca ?bcb
  case' bca => refine' Zby ?bcc
  case' bcc => refine' k_bm (K := K) ?bcd ?bce ?bcf ?bcg ?bch ?bci ?bcj
  case bcd => exact rfl
  case bce => exact PySem.F.plainAttrs_list
  case bcf => exact PySem.F.slot_list_append
  case bcg => exact PySem.F.type_list_append
  case bch => exact Za3
  case bci => exact (pv 1)
  case' bcj => refine' ZbR ?bck ?bcl
  case bck => exact (Zbb (Zap (Zao (k_ix (K := K) rfl) (pv 4) Zaa (fun _ _ => rfl)) (Zgs (Zba Zab) (ZbR (Zbb Zab) Zab))))
  case bcl => exact Zab
  case bcb => exact (Zag (Zc2 (i := 2) nd rfl (Or.inl rfl) (ZdF Zce Zaa)))
  case' bbz => refine' Zag ?bcm
  case' bcm => refine' Za1 ?bcn ?bco ?bcp
  case bcn => exact (Zal Zbc (Zao (k_ix (K := K) rfl) (pv 4) Zaa (fun _ _ => rfl)) Zak (Zas _))
  case' bco => refine' Zag ?bcq
  case' bcq => refine' Zby ?bcr
  case' bcr => refine' k_bm (K := K) ?bcs ?bct ?bcu ?bcv ?bcw ?bcx ?bcy
  case bcs => exact rfl
  case bct => exact PySem.F.plainAttrs_list
  case bcu => exact PySem.F.slot_list_append
  case bcv => exact PySem.F.type_list_append
  case bcw => exact Za3
  case bcx => exact (Zao (k_ix (K := K) rfl) (Zao (k_ix (K := K) rfl) (pv 1) (ZdF Zce Zaa) (fun _ _ => rfl)) Zaa (fun _ _ => rfl))
  case bcy => exact (Zap (Zao (k_ix (K := K) rfl) (pv 4) Zaa (fun _ _ => rfl)) Zab)
  case' bcp => refine' Zag ?bcz
  case' bcz => refine' Za1 ?bda ?bdb ?bdc
  case bda => exact (Zal Zbc (Zao (k_ix (K := K) rfl) (pv 4) Zaa (fun _ _ => rfl)) Zak (Zas _))
  case' bdb => refine' Zae ?bdd ?bde
  case' bdd => refine' ZcQ ?bdf ?bdg
  case' bdf => refine' Zbb ?bdh
  case' bdh => refine' Zap ?bdi ?bdj
  case bdi => exact (Zao (k_ix (K := K) rfl) (Zao (k_ix (K := K) rfl) (pv 1) (ZdF Zce Zaa) (fun _ _ => rfl)) Zaa (fun _ _ => rfl))
  case' bdj => refine' Zap ?bdk ?bdl
  case bdk => exact (Zao (k_ix (K := K) rfl) (Zao (k_ix (K := K) rfl) (pv 1) (ZdF Zce Zaa) (fun _ _ => rfl)) Zaa (fun _ _ => rfl))
  case bdl => exact (Zap (Zao (k_ix (K := K) rfl) (pv 4) Zaa (fun _ _ => rfl)) Zab)
  case bdg => exact (Zc3 (pv 1) (ZdF Zce Zaa) ZbG)
  case' bde => refine' Zag ?bdm
  case' bdm => refine' Zbk (i := 2) ?bdn ?bdo ?bdp ?bdq
  case bdn => exact nd
  case bdo => exact rfl
  case bdp => exact (Or.inl rfl)
  case' bdq => refine' ZlL ?bdr ?bds ?bdt ?bdu ?bdv
  case bdr => exact hu1
  case bds => exact (ZnL (Zip Zak Zaa (Zip Zak Zaa ZnJ)) rfl rfl (cons_ne_nil _ _) (Nat.le_of_ble_eq_true rfl))
  case bdt => exact (Zao (k_ix (K := K) rfl) (Zao (k_ix (K := K) rfl) (pv 4) Zaa (fun _ _ => rfl)) Zaa (fun _ _ => rfl))
  case bdu => exact Zaa
  case bdv => exact (M2.mk rfl rfl rfl rfl)
  case' bdc => refine' Zae ?bdw ?bdx
  case' bdw => refine' ZcQ ?bdy ?bdz
  case' bdy => refine' Zbb ?bea
  case' bea => refine' Zap ?beb ?bec
  case beb => exact (Zao (k_ix (K := K) rfl) (Zao (k_ix (K := K) rfl) (pv 1) (ZdF Zce Zaa) (fun _ _ => rfl)) Zaa (fun _ _ => rfl))
  case' bec => refine' Zap ?bed ?bee
  case bed => exact (Zao (k_ix (K := K) rfl) (Zao (k_ix (K := K) rfl) (pv 1) (ZdF Zce Zaa) (fun _ _ => rfl)) Zaa (fun _ _ => rfl))
  case' bee => refine' Zbi ?bef ?beg
  case' bef => refine' Zar ?beh ?bei ?bej
  case beh => exact (Zhb (K := K) rfl)
  case bei => exact (Zao (k_ix (K := K) rfl) (Zao (k_ix (K := K) rfl) (pv 1) (ZdF Zce Zaa) (fun _ _ => rfl)) Zaa (fun _ _ => rfl))
  case bej => exact (Zbb (Zap (Zao (k_ix (K := K) rfl) (pv 4) Zaa (fun _ _ => rfl)) Zab))
  case beg => exact Zab
  case bdz => exact (Zc3 (pv 1) (ZdF Zce Zaa) ZbG)
  case bdx => exact (Zag (Zbr (i := 2) nd rfl (Or.inl rfl) (Zar Zj7 (pv 2) Zaa)))
  case bag => exact (Zag (ZaD (Ziq (Zal Zbc (pv 2) Zaa (Zas _)) (pv 1) ZbZ)))
  walk_at"rd"
  walk_at"mk"; intro q nq
  have s0 := Same.new (o := .lst []) nq
  have eq0 : upd H q (.lst []) q = some (.lst []) := Zad
  generalize upd H q (.lst []) = H0 at s0 eq0
  walk_at"rd"
  refine ⟨rfl, ?_⟩
  walk_at"rd"
  refine Zc1 (c := 10) (by decide) (by lia) fun p1 H1 n1 s1 e1 => ?_
  have wo := WsOk.split (c := 10) hz az
  have eM : Zl0 z = mFin ((Txt.split z ⟨#[10]⟩).foldlM (fun s line => mW s (Txt.split line Zbw)) ([], .idle)) := by unfold Zl0; rw [ZeH]
  have hln : (Txt.split z ⟨#[10]⟩).length <= 900001 := by
    have := ZdZ (t := z) (c := 10)
    lia
  generalize Txt.split z ⟨#[10]⟩ = lines at e1 wo eM hln
  rw [ZnY] at eM
  have np : p1 ≠ q := fun z => by rw [z, eq0] at n1; cases n1
  have hp1 : H p1 = none := s0.free n1
  refine Zb4 (SqL.of e1) ?_
  refine ZcD (xs := lines.map V.str) (fun i σ Hx => Ex5 fun c3 c4 s vs ls => An8 (σ = [some (.str z), some (.ref q), some (.int (ZeX s.2)), c3, c4]) ((lines.take i).foldlM (fun s line => mW s (Txt.split line Zbw)) ([], .idle) = some s) (LdI H Hx q (ents s) vs ls) (p1 ∉ ls) (Hx p1 = some (.lst (lines.map V.str))) (vs.length <= i) (frN s.2 <= i) (edN s.2 <= i + 2))
    ⟨none, none, ([], .idle), [], [], rfl, rfl, ⟨s0.trans s1, s1 _ _ eq0, nq, (fun l h => by cases h), nodup_nil, rfl, rfl, (fun i e v l h => by cases h)⟩, by simp, e1, Nat.le_refl _, Nat.le_refl _, Nat.zero_le _⟩ (fun i σ Hx _ z_ => by obtain ⟨_, _, _, _, _, _, _, _, _, e, _⟩ := z_; exact SqL.of e) ?_ ?_
  · rintro i y σ Hx hx ⟨c3, c4, st, vs, ls, rfl, hst, I, npl, g1, hvl, hfr, hed⟩ N hN
    rw [getElem?_map] at hx
    obtain ⟨line, ew, rfl⟩ := Option.map_eq_some_iff.mp hx
    obtain ⟨aw, hw⟩ := wo.2 line (mem_of_getElem? ew)
    have nx := Zi5 ew hst
    have bad : mW st (Txt.split line Zbw) = none -> ZdC z = none := fun h => by
      rw [eM, Zga (i + 1) (nx.trans h)]
      rfl
    walk_at"rd"
    refine use1 ⟨line, rfl, hw, aw, fun r v H2 hr2 rv s2 => ?_, fun hn H2 s2 => ?_⟩
    rotate_left
    · walk_at"rd"
      refine Zc7 rfl ?_
      walk_at"rd"
      exact no (bad (by unfold mW; rw [show Zem (Txt.split line Zbw) = none from hn]; rfl)) _ (I.sm.trans s2)
    have hmW : mW st (Txt.split line Zbw) = ZfN st r := by
      unfold mW
      rw [show Zem (Txt.split line Zbw) = some r from hr2]
      rfl
    rw [hmW] at bad nx
    rw [lnD_eq] at rv
    obtain ⟨t, xs, rfl, ht, rx⟩ := ZaW rv
    obtain ⟨x1, xr, rfl, rx1, rx⟩ := ZaJ rx
    obtain ⟨vv, xr, rfl, rvv, rx⟩ := ZaJ rx
    have hxr : xr = [] := ZbD rx
    subst hxr
    have hx1 : x1 = .str (kdW r) := by rw [Rep] at rx1; exact rx1
    subst hx1
    have I2 := I.mono s2
    refine Zcc ?_
    try dsimp +zetaDelta only
    refine Zbz (fun σ' H' => σ' = [some (.str z), some (.ref q), some (.int (ZeX st.2)), some (.str line), some (.ref t)] /\ Same H2 H' /\ ¬ (ZeX st.2 = -1 /\ kdW r ∈ (["stand", "edge"] : List Str))) (fun N1 hN1 => ?_) fun σ' H3 ⟨hσ, s3, hc1⟩ => ?_
    · walk_at"rd"
      refine Zco (fun z => by cases z) ?_
      walk_at"rd"
      refine ZaS (fun h1 => ?_) (fun h1 => ?_)
      · walk_at"rd"
        refine Za6 ht (v := .str (kdW r)) (Zan (n := 0) rfl rfl) ?_
        walk_at"rd"
        walk_at"mk"; intro p5 n5
        refine ⟨p5, (["stand", "edge"] : List Str).map V.str, rfl, .inl (SqL.of Zad), rfl, rfl, ?_⟩
        rw [if_neg (by decide), Zgz]
        change ∃ k, _ /\ _
        walk_at"rd"
        refine ZaS (fun h2 => ?_) (fun h2 => ?_)
        · walk_at"rd"
          exact no (bad (Zgj _ _ (.inl ⟨h1, h2⟩))) _ (I2.sm.trans (Same.new n5))
        · walk_at"rd"
          exact hN1 _ _ ⟨rfl, Same.new n5, fun h => h2 h.2⟩
      · walk_at"rd"
        exact hN1 _ _ ⟨rfl, Same.refl _, fun h => h1 h.1⟩
    subst hσ
    have I3 := I2.mono s3
    have ht3 := s3 _ _ ht
    refine Zbz (fun σ' H' => σ' = [some (.str z), some (.ref q), some (.int (ZeX st.2)), some (.str line), some (.ref t)] /\ H3 = H' /\ ¬ (0 < ZeX st.2 /\ kdW r ≠ "edge") /\ ¬ (ZeX st.2 = 0 /\ kdW r ≠ "stand")) (fun N1 hN1 => ?_) fun σ' H4 ⟨hσ, hH, hc2, hc3⟩ => ?_
    · walk_at"rd"
      refine ZaS (fun h1 => ?_) (fun h1 => ?_)
      · walk_at"rd"
        refine Za6 ht3 (v := .str (kdW r)) (Zan (n := 0) rfl rfl) ?_
        walk_at"rd"
        refine ZdJ (fun h2 => ?_) (fun h2 => ?_)
        · walk_at"rd"
          exact no (bad (Zgj _ _ (.inr (.inl ⟨h1, h2⟩)))) _ I3.sm
        · walk_at"rd"
          refine Zco (fun h3 => by lia) ?_
          walk_at"rd"
          exact hN1 _ _ ⟨rfl, rfl, fun h => h.2 h2, fun h => by lia⟩
      · walk_at"rd"
        refine ZaS (fun h2 => ?_) (fun h2 => ?_)
        · walk_at"rd"
          refine Za6 ht3 (v := .str (kdW r)) (Zan (n := 0) rfl rfl) ?_
          walk_at"rd"
          refine ZdJ (fun h3 => ?_) (fun h3 => ?_)
          · walk_at"rd"
            exact no (bad (Zgj _ _ (.inr (.inr ⟨h2, h3⟩)))) _ I3.sm
          · walk_at"rd"
            exact hN1 _ _ ⟨rfl, rfl, fun h => h1 h.1, fun h => h.2 h3⟩
        · walk_at"rd"
          exact hN1 _ _ ⟨rfl, rfl, fun h => h1 h.1, fun h => h2 h.1⟩
    subst hσ hH
    obtain ⟨st', hs'⟩ := ZlO st r hc1 hc2 hc3
    rw [hs'] at nx
    have rvv3 := rvv.mono s3.ts
    have g13 := (s2.trans s3) _ _ g1
    have hil : i < lines.length := (List.getElem?_eq_some_iff.mp ew).1
    have hlc := wo.1
    obtain ⟨acc, sg⟩ := st
    cases r with
    | stand n =>
      cases sg with
      | fr _ _ => cases hs'
      | ed _ _ _ _ _ _ => cases hs'
      | idle =>
      cases hs'
      have hvv : vv = .int n := by rw [show lnV (.stand n) = .int n from rfl, Rep] at rvv; exact rvv
      subst hvv
      walk_at"rd"
      refine Za6 ht3 (v := .str "stand") (Zan (n := 0) rfl rfl) ?_
      walk_at"rd"
      refine Zc7 rfl ?_
      walk_at"rd"
      refine ⟨.inl ⟨rfl, _, SqL.of I3.hq⟩, ?_⟩
      walk_at"rd"
      refine Za6 ht3 (v := .int n) (Zan (n := 1) rfl rfl) ?_
      walk_at"rd"
      walk_at"mk"; intro l nl
      have t1 := Same.new (o := .lst []) nl
      have u1 : upd H3 l (.lst []) l = some (.lst []) := Zad
      generalize upd H3 l (.lst []) = G1 at t1 u1
      walk_at"rd"
      walk_at"mk"; intro e0 ne
      have t2 := Same.new (o := .tup []) ne
      have u2 : upd G1 e0 (.tup []) e0 = some (.tup []) := Zad
      generalize upd G1 e0 (.tup []) = G2 at t2 u2
      walk_at"rd"
      walk_at"mk"; intro t' nt
      have t3 := Same.new (o := .tup [V.int n, V.ref l, V.ref e0]) nt
      have u3 : upd G2 t' (.tup [V.int n, V.ref l, V.ref e0]) t' = some (.tup [V.int n, V.ref l, V.ref e0]) := Zad
      generalize upd G2 t' (.tup [V.int n, V.ref l, V.ref e0]) = G3 at t3 u3
      have t13 := (t1.trans t2).trans t3
      walk_at"rd"
      refine ZaV (t13 _ _ I3.hq) (Nat.lt_of_le_of_lt (show vs.length <= 1000000 by lia) (by rw [PySem.sizeLine_eq]; decide)) ?_
      walk_at"rd"
      refine hN _ _ ⟨_, _, (acc, .fr n []), vs ++ [V.ref t'], ls ++ [l], rfl, nx, LdI.push I3 t13 nl ((t2.trans t3) _ _ u1) (t3 _ _ u2) u3, fun h => ?_, by rw [Zat np]; exact t13 _ _ g13, by rw [length_append]; exact Nat.succ_le_succ hvl, Nat.zero_le _, Nat.zero_le _⟩
      rcases mem_append.mp h with h | h
      · exact npl h
      · rw [<- mem_singleton.mp h, g13] at nl
        cases nl
    | frame fm =>
      cases sg with
      | idle => cases hs'
      | ed _ _ _ _ _ _ => cases hs'
      | fr n fs =>
      cases hs'
      obtain ⟨vs0, v0, ls0, l, rfl, rfl, t0, ys, vd, rfl, k2, k3, k4, k5⟩ := LdI.last (es0 := acc.map toE) (e := (n, fs, .tup [])) I3
      walk_at"rd"
      refine Za6 ht3 (v := .str "frame") (Zan (n := 0) rfl rfl) ?_
      walk_at"rd"
      refine Zco (by decide) ?_
      walk_at"rd"
      refine Za6 ht3 (v := .str "frame") (Zan (n := 0) rfl rfl) ?_
      walk_at"rd"
      refine Zc7 rfl ?_
      walk_at"rd"
      refine Zaj I3.hq (v := .ref t0) Zdu ?_
      walk_at"rd"
      refine Za6 k2 (v := .ref l) (Zan (n := 1) rfl rfl) ?_
      refine ⟨.inl ⟨rfl, _, SqL.of k3⟩, ?_⟩
      walk_at"rd"
      refine Za6 ht3 (v := vv) (Zan (n := 1) rfl rfl) ?_
      walk_at"rd"
      have hyl : (fs.map Zcp).length = ys.length := k4.length
      rw [length_map] at hyl
      have hfr : fs.length <= i := hfr
      refine ZaV k3 (Nat.lt_of_le_of_lt (show ys.length <= 1000000 by lia) (by rw [PySem.sizeLine_eq]; decide)) ?_
      have npl' : p1 ≠ l := fun z => npl (by rw [z]; exact mem_append_right _ mem_cons_self)
      exact hN _ _ ⟨_, _, (acc, .fr n (fs ++ [fm])), _, ls0 ++ [l], rfl, nx, LdI.grow I3 k3 k4 rvv3, npl, by rw [Zat npl']; exact g13, Nat.le_succ_of_le hvl, by show (fs ++ [fm]).length <= i + 1; rw [length_append]; exact Nat.succ_le_succ hfr, Nat.zero_le _⟩
    | deed wd ns =>
      cases sg with
      | idle => cases hs'
      | ed _ _ _ _ _ _ => cases hs'
      | fr n fs =>
      obtain ⟨vs0, v0, ls0, l, rfl, rfl, t0, ys, vd, rfl, k2, k3, k4, k5⟩ := LdI.last (es0 := acc.map toE) (e := (n, fs, .tup [])) I3
      have hkd : (Str.ofString "deed" : Str) ≠ Str.ofString "stand" /\ (Str.ofString "deed" : Str) ≠ Str.ofString "frame" := by decide
      walk_at"rd"
      refine Za6 ht3 (v := .str "deed") (Zan (n := 0) rfl rfl) ?_
      walk_at"rd"
      refine Zco (by decide) ?_
      walk_at"rd"
      refine Za6 ht3 (v := .str "deed") (Zan (n := 0) rfl rfl) ?_
      walk_at"rd"
      refine Zco (by decide) ?_
      walk_at"rd"
      refine Za6 ht3 (v := .str "deed") (Zan (n := 0) rfl rfl) ?_
      walk_at"rd"
      refine Zc7 rfl ?_
      walk_at"rd"
      refine Zaj I3.hq (v := .ref t0) Zdu ?_
      walk_at"rd"
      refine Za6 k2 (v := .int n) (Zan (n := 0) rfl rfl) ?_
      walk_at"rd"
      refine Zaj I3.hq (v := .ref t0) Zdu ?_
      walk_at"rd"
      refine Za6 k2 (v := .ref l) (Zan (n := 1) rfl rfl) ?_
      walk_at"rd"
      refine Za6 ht3 (v := vv) (Zan (n := 1) rfl rfl) ?_
      walk_at"rd"
      walk_at"mk"; intro t' nt
      have t1 := Same.new (o := .tup [V.int n, V.ref l, vv]) nt
      have u1 : upd H3 t' (.tup [V.int n, V.ref l, vv]) t' = some (.tup [V.int n, V.ref l, vv]) := Zad
      generalize upd H3 t' (.tup [V.int n, V.ref l, vv]) = G1 at t1 u1
      walk_at"rd"
      refine Zcy (k := vs0.length) (t1 _ _ I3.hq) (by rw [length_append]; exact Zhe) ?_
      rw [show (vs0 ++ [V.ref t0]).set vs0.length (V.ref t') = vs0 ++ [V.ref t'] from by simp]
      have J := LdI.swap (d' := ZdM (wd, ns, [])) I3 t1 u1 (by
        have := rvv3.mono t1.ts
        rw [show lnV (.deed wd ns) = ZdM (wd, ns, []) from by unfold lnV ZdM; rw [map_nil, append_nil]] at this
        exact this)
      have tw : TSame G1 (upd G1 q (.lst (vs0 ++ [V.ref t']))) := TSame.wr fun zs z => by rw [t1 _ _ I3.hq] at z; cases z
      have ht5 := tw _ _ (t1 _ _ ht3)
      have g15 : upd G1 q (.lst (vs0 ++ [V.ref t'])) p1 = some (.lst (lines.map V.str)) := by rw [Zat np]; exact t1 _ _ g13
      obtain ⟨tv, xv, rfl, hv, rxv⟩ := ZaW (show Rep H3 (.tup (.str wd :: ns.map D.int)) vv from rvv3)
      obtain ⟨y1, xv, rfl, ry1, _⟩ := ZaJ rxv
      have hy1 : y1 = .str wd := by rw [Rep] at ry1; exact ry1
      subst hy1
      have hv5 := tw _ _ (t1 _ _ hv)
      generalize upd G1 q (.lst (vs0 ++ [V.ref t'])) = G2 at J tw ht5 g15 hv5
      walk_at"rd"
      refine Zly fun pd npd => ?_
      walk_at"rd"
      refine Zoh ([(Sum.inr "test", .int 2), (Sum.inr "leave", .int 0)] : List (Key × V)) rfl Zad (by decide) (by decide) ?_
      have sD : Same G2 (upd (upd G2 pd (.dK [])) pd (.dK ([(Sum.inr "test", .int 2), (Sum.inr "leave", .int 0)] : List (Key × V)))) := (Same.new npd).wrF npd
      have hD : upd (upd G2 pd (.dK [])) pd (.dK ([(Sum.inr "test", .int 2), (Sum.inr "leave", .int 0)] : List (Key × V))) pd = some (.dK ([(Sum.inr "test", .int 2), (Sum.inr "leave", .int 0)] : List (Key × V))) := Zad
      generalize upd (upd G2 pd (.dK [])) pd (.dK ([(Sum.inr "test", .int 2), (Sum.inr "leave", .int 0)] : List (Key × V))) = G3 at sD hD
      have J3 := J.mono sD
      have g16 := sD _ _ g15
      refine ⟨pd, rfl, .inl ⟨_, .inl hD⟩, ?_⟩
      walk_at"rd"
      refine Za6 (sD _ _ ht5) (v := .ref tv) (Zan (n := 1) rfl rfl) ?_
      walk_at"rd"
      refine Za6 (sD _ _ hv5) (v := .str wd) (Zan (n := 0) rfl rfl) ?_
      walk_at"rd"
      refine ⟨_, .inl ⟨_, Sum.inr wd, .inl hD, rfl, rfl⟩, ?_⟩
      have hval : (L2.valV ([(Sum.inr "test", .int 2), (Sum.inr "leave", .int 0)] : List (Key × V)) (Sum.inr wd)).getD (V.int 1) = V.int ((ZfM wd : Nat) : Int) := by
        unfold ZfM
        by_cases h1 : wd = "test"
        · subst h1; rfl
        · by_cases h2 : wd = "leave"
          · subst h2; rfl
          · rw [if_neg h1, if_neg h2]
            have n1 : ¬ Str.ofString "test" = wd := fun z => h1 z.symm
            have n2 : ¬ Str.ofString "leave" = wd := fun z => h2 z.symm
            simp [L2.valV, n1, n2, h1, h2]
      rw [hval]
      have hs' : some (match ZfM wd with | 0 => (acc ++ [(n, fs, wd, ns, [])], Stg.idle) | k + 1 => (acc, .ed n fs wd ns [] k)) = some st' := hs'
      cases hk : ZfM wd with
      | zero =>
        rw [hk] at hs'
        cases hs'
        walk_at"rd"
        refine hN _ _ ⟨_, _, (acc ++ [(n, fs, wd, ns, [])], .idle), vs0 ++ [V.ref t'], ls0 ++ [l], rfl, nx, ?_, npl, g16, by rw [length_append] at hvl ⊢; exact Nat.le_succ_of_le hvl, Nat.zero_le _, Nat.zero_le _⟩
        rw [show ents (acc ++ [(n, fs, wd, ns, [])], .idle) = acc.map toE ++ [(n, fs, ZdM (wd, ns, []))] from by show (acc ++ [(n, fs, wd, ns, [])]).map toE = _; rw [map_append]; rfl]
        exact J3
      | succ k =>
        rw [hk] at hs'
        cases hs'
        walk_at"rd"
        exact hN _ _ ⟨_, _, (acc, .ed n fs wd ns [] k), vs0 ++ [V.ref t'], ls0 ++ [l], rfl, nx, J3, npl, g16, by rw [length_append] at hvl ⊢; exact Nat.le_succ_of_le hvl, Nat.zero_le _, by have := Zmf hr2; show ns.length + 0 <= i + 1 + 2; lia⟩
    | edge e =>
      cases sg with
      | idle => cases hs'
      | fr _ _ => cases hs'
      | ed n fs wd ns es j =>
      obtain ⟨vs0, v0, ls0, l, rfl, rfl, t0, ys, vd, rfl, k2, k3, k4, k5⟩ := LdI.last (es0 := acc.map toE) (e := (n, fs, ZdM (wd, ns, es))) I3
      obtain ⟨td, xd, rfl, hd, rxd⟩ := ZaW (show Rep H3 (.tup (.str wd :: (ns.map D.int ++ es.map ZcY))) vd from k5)
      walk_at"rd"
      refine Za6 ht3 (v := .str "edge") (Zan (n := 0) rfl rfl) ?_
      walk_at"rd"
      refine Zco (by decide) ?_
      walk_at"rd"
      refine Za6 ht3 (v := .str "edge") (Zan (n := 0) rfl rfl) ?_
      walk_at"rd"
      refine Zco (by decide) ?_
      walk_at"rd"
      refine Za6 ht3 (v := .str "edge") (Zan (n := 0) rfl rfl) ?_
      walk_at"rd"
      refine Zco (by decide) ?_
      walk_at"rd"
      refine Zaj I3.hq (v := .ref t0) Zdu ?_
      walk_at"rd"
      refine Za6 k2 (v := .int n) (Zan (n := 0) rfl rfl) ?_
      walk_at"rd"
      refine Zaj I3.hq (v := .ref t0) Zdu ?_
      walk_at"rd"
      refine Za6 k2 (v := .ref l) (Zan (n := 1) rfl rfl) ?_
      walk_at"rd"
      refine Zaj I3.hq (v := .ref t0) Zdu ?_
      walk_at"rd"
      refine Za6 k2 (v := .ref td) (Zan (n := 2) rfl rfl) ?_
      walk_at"rd"
      refine Za6 ht3 (v := vv) (Zan (n := 1) rfl rfl) ?_
      walk_at"rd"
      walk_at"mk"; intro te nte
      have t1 := Same.new (o := .tup [vv]) nte
      have hed : ns.length + es.length <= i + 2 := hed
      have hxl : (D.str wd :: (ns.map D.int ++ es.map ZcY)).length = xd.length := rxd.length
      simp only [length_cons, length_append, length_map] at hxl
      refine Zfn (t1 _ _ hd) Zad (by rw [length_singleton]; lia) fun tc H5 ec s5 => ?_
      have t15 := t1.trans s5
      walk_at"rd"
      walk_at"mk"; intro t' nt
      have t6 := Same.new (o := .tup [V.int n, V.ref l, V.ref tc]) nt
      have u6 : upd H5 t' (.tup [V.int n, V.ref l, V.ref tc]) t' = some (.tup [V.int n, V.ref l, V.ref tc]) := Zad
      generalize upd H5 t' (.tup [V.int n, V.ref l, V.ref tc]) = G1 at t6 u6
      have t16 := t15.trans t6
      walk_at"rd"
      refine Zcy (k := vs0.length) (t16 _ _ I3.hq) (by rw [length_append]; exact Zhe) ?_
      rw [show (vs0 ++ [V.ref t0]).set vs0.length (V.ref t') = vs0 ++ [V.ref t'] from by simp]
      have J := LdI.swap (d' := ZdM (wd, ns, es ++ [e])) I3 t16 u6 (by
        have e1 : ZdM (wd, ns, es ++ [e]) = .tup ((.str wd :: (ns.map D.int ++ es.map ZcY)) ++ [ZcY e]) := by
          unfold ZdM
          simp
        rw [e1]
        exact ZaZ (t6 _ _ ec) (Reps.append (rxd.mono t16.ts) (Zai (rvv3.mono t16.ts) Zaq)))
      have g15 : upd G1 q (.lst (vs0 ++ [V.ref t'])) p1 = some (.lst (lines.map V.str)) := by rw [Zat np]; exact t16 _ _ g13
      generalize upd G1 q (.lst (vs0 ++ [V.ref t'])) = G2 at J g15
      walk_at"rd"
      cases j with
      | zero =>
        have hs' : some (acc ++ [(n, fs, wd, ns, es ++ [e])], Stg.idle) = some st' := hs'
        cases hs'
        refine hN _ _ ⟨_, _, (acc ++ [(n, fs, wd, ns, es ++ [e])], .idle), vs0 ++ [V.ref t'], ls0 ++ [l], rfl, nx, ?_, npl, g15, by rw [length_append] at hvl ⊢; exact Nat.le_succ_of_le hvl, Nat.zero_le _, Nat.zero_le _⟩
        rw [show ents (acc ++ [(n, fs, wd, ns, es ++ [e])], .idle) = acc.map toE ++ [(n, fs, ZdM (wd, ns, es ++ [e]))] from by show (acc ++ [(n, fs, wd, ns, es ++ [e])]).map toE = _; rw [map_append]; rfl]
        exact J
      | succ k =>
        have hs' : some (acc, Stg.ed n fs wd ns (es ++ [e]) k) = some st' := hs'
        cases hs'
        refine hN _ _ ⟨some (.str line), some (.ref t), (acc, .ed n fs wd ns (es ++ [e]) k), vs0 ++ [V.ref t'], ls0 ++ [l], ?_, nx, J, npl, g15, by rw [length_append] at hvl ⊢; exact Nat.le_succ_of_le hvl, Nat.zero_le _, by show ns.length + (es ++ [e]).length <= i + 1 + 2; rw [length_append, length_singleton]; lia⟩
        show [some (V.str z), some (V.ref q), some (V.int (((k + 1 : Nat) : Int) + 1 - 1)), some (V.str line), some (V.ref t)] = _
        rw [show ((k + 1 : Nat) : Int) + 1 - 1 = (k : Int) + 1 by lia]
        rfl
  rintro σ Hx ⟨c3, c4, st, vs, ls, rfl, hst, I, npl, g1, hvl, hfr, hed⟩
  rw [length_map, take_length] at hst
  rw [hst] at eM
  obtain ⟨acc, sg⟩ := st
  walk_at"rd"
  cases sg with
  | idle =>
    refine Zc7 rfl ?_
    walk_at"rd"
    refine k acc q vs Hx eM I.hq ⟨by rw [<- I.le]; exact (length_map ..).symm, fun i st v h1 h2 => ?_⟩ I.sm
    have hi : i < acc.length := (List.getElem?_eq_some_iff.mp h1).1
    have hl : i < ls.length := by
      have := I.ll
      rw [show ents (acc, .idle) = acc.map toE from rfl, length_map] at this
      lia
    obtain ⟨t, ys, vd, k1, k2, k3, k4, k5⟩ := I.at' i (toE st) v _ (by show (acc.map toE)[i]? = _; rw [getElem?_map, h1]; rfl) h2 (getElem?_eq_getElem hl)
    exact ⟨t, _, ys, vd, k1, k2, k3, k4, k5⟩
  | fr n fs =>
    refine Zco (by show ¬ (-1 : Int) = 0; decide) ?_
    walk_at"rd"
    exact no eM _ I.sm
  | ed n fs wd ns es j =>
    refine Zco (by show ¬ (j : Int) + 1 = 0; lia) ?_
    walk_at"rd"
    exact no eM _ I.sm
theorem Ziz {c : Nat} (hc : c < 128) : ∀ {ps : List (List Nat)}, (∀ p ∈ ps, ∀ x ∈ p, x < 128) -> ∀ x ∈ jn c ps, x < 128
  | [], _, x, hx => by cases hx
  | [p], h, x, hx => h p mem_cons_self x hx
  | a :: b :: r, h, x, hx => by
    rcases mem_append.mp (show x ∈ a ++ c :: jn c (b :: r) from hx) with z | z
    · exact h a mem_cons_self x z
    · rcases mem_cons.mp z with rfl | z
      · exact hc
      · exact Ziz hc (fun p hp => h p (mem_cons_of_mem _ hp)) x z
theorem ZhO : ∀ {l : List Str} {x : Str}, x ∈ l -> x.length <= (l.map (·.length)).sum
  | a :: l, x, h => by
    rw [map_cons, sum_cons]
    rcases mem_cons.mp h with rfl | h
    · lia
    · have := ZhO h
      lia
theorem Zi2 (wd:Str) (a b:Int) (fs:List Zbj):(ZaM wd a b fs).length+1=((rowT wd [a,b]::fs.map fT).map (·.length)).sum+(rowT wd [a,b]::fs.map fT).length:=by
 unfold ZaM
 rw [Zcd]
 exact Zc6 (cons_ne_nil _ _)
noncomputable def WA (p:Str):Prop:=∀ c∈cs p,c < 128
theorem ZfU (n:Int):WA (numS n):=fun c hc=>by
 have:=Zej n c hc
 lia
theorem Zm0 (f:Zbj):WA (fT f):=fun c hc=>by
 unfold fT at hc
 rw [ZdE,Zbg] at hc
 refine Ziz (by decide) (fun p hp x hx=>?_) c hc
 obtain ⟨q,hq,rfl⟩:=mem_map.mp hp
 rcases mem_cons.mp hq with rfl|hq
 ·exact ZfU _ x hx
 ·obtain ⟨r,_,rfl⟩:=mem_map.mp hq
  unfold Zei at hx
  rw [Za8,Za8,Zdt] at hx
  rcases mem_append.mp hx with hx|hx
  ·rcases mem_append.mp hx with hx|hx
   ·exact ZfU _ x hx
   ·rw [mem_singleton.mp hx];decide
  ·exact ZfU _ x hx
theorem wa_ln {w:Str} (hw:WA w) (a b:Int) (fs:List Zbj):∀ p∈lnG w a b fs,WA p:=fun p hp=>by
 rcases mem_cons.mp hp with rfl|hp
 ·exact hw
 ·rcases mem_cons.mp hp with rfl|hp
  ·exact ZfU _
  ·rcases mem_cons.mp hp with rfl|hp
   ·exact ZfU _
   ·obtain ⟨f,_,rfl⟩:=mem_map.mp hp
    exact Zm0 f
theorem Zmr {w:Str} (hw:WA w) (ns:List Int):∀ p∈w::ns.map numS,WA p:=fun p hp=>by
 rcases mem_cons.mp hp with rfl|hp
 ·exact hw
 ·obtain ⟨f,_,rfl⟩:=mem_map.mp hp
  exact ZfU f
theorem Zme {w : Str} {ks : List Str} (h : deedT.lookup w = some ks) : (w, ks) ∈ deedT := by
  have : ∀ (l : List (Str × List Str)), l.lookup w = some ks -> (w, ks) ∈ l := by
    intro l
    induction l with
    | nil => intro h; cases h
    | cons q l ih =>
      intro h
      obtain ⟨a, b⟩ := q
      rw [lookup_cons] at h
      split at h
      · next e => cases h; rw [beq_iff_eq.mp e]; exact mem_cons_self
      · exact mem_cons_of_mem _ (ih h)
  exact this _ h
theorem Zl2 {l:List ZaO} (h:∀ st∈l,WOk st):Zbd (ZfO l):=by
 have hk:∀ q∈deedT,∀ c∈cs q.1,c < 128:=by decide +kernel
 rw [asc_mem,Zc5,ZeH,Zbg]
 refine Ziz (by decide) fun p hp=>?_
 obtain ⟨line,hl,rfl⟩:=mem_map.mp hp
 obtain ⟨x,hx,hl⟩:=mem_flatten.mp hl
 obtain ⟨st,hst,rfl⟩:=mem_map.mp hx
 rw [Zid] at hl
 obtain ⟨ws,hw,rfl⟩:=mem_map.mp hl
 obtain ⟨ks,ek,_⟩:=(h st hst).deed
 have key:∀ p∈ws,WA p:=by
  rcases mem_cons.mp hw with rfl|hw
  ·exact Zmr (by unfold WA;decide) _
  ·rcases mem_append.mp hw with hw|hw
   ·obtain ⟨f,_,rfl⟩:=mem_map.mp hw
    exact wa_ln (by unfold WA;decide) _ _ _
   ·rcases mem_cons.mp hw with rfl|hw
    ·exact Zmr (hk _ (Zme ek)) _
    ·obtain ⟨f,_,rfl⟩:=mem_map.mp hw
     exact wa_ln (by unfold WA;decide) _ _ _
 rw [Zcd,Zbg]
 refine Ziz (by decide) fun p hp=>?_
 obtain ⟨q,hq,rfl⟩:=mem_map.mp hp
 exact key q hq
theorem Zoi {ws : List Str} {lines : List (List Str)} {d : Zh8} (h : ZdV ws lines = some d) : Zlc d := by
  unfold ZdV at h
  cases ws with
  | nil => cases h
  | cons w ws =>
    cases ek : deedT.lookup w with
    | none => simp only [ek] at h; cases h
    | some ks =>
      simp only [ek] at h
      cases en : Zbm (ks.countP (· == Zbs)) (w :: ws) with
      | none => simp only [en] at h; cases h
      | some ns =>
        simp only [en] at h
        split at h
        · next el =>
          obtain ⟨es, ee, rfl⟩ := Option.map_eq_some_iff.mp h
          obtain ⟨_, _, hl, _⟩ := ZdT en
          exact ⟨ks, ek, hl, by rw [<- el]; exact (Zck ee).1.symm⟩
        · cases h
theorem lane_W {z : Str} {sts : List ZaO} (h : ZdC z = some sts) : ZfO sts = z /\ ∀ st ∈ sts, WOk st := by
  obtain ⟨h1, h2⟩ := Zkq h
  refine ⟨h1, fun st hst => ?_⟩
  obtain ⟨a, b, c, d⟩ := h2 st hst
  refine ⟨a, b, c, d, ?_⟩
  unfold ZdC at h
  obtain ⟨gs, _, hm⟩ := Option.bind_eq_some_iff.mp h
  refine (Zcl (g := fun _ => ()) (k := fun _ : ZaO => ()) (ok := fun st : ZaO => Zlc st.2.2) (fun g _ st e => ⟨rfl, ?_⟩) hm).2 st hst
  unfold Zbv at e
  cases g with
  | nil => cases e
  | cons g0 rest =>
    cases en : Zbm 1 g0 with
    | none => simp only [en] at e; cases e
    | some ns =>
      simp only [en] at e
      cases ed : rest.dropWhile ZaT with
      | nil => rw [ed] at e; cases e
      | cons dw lines =>
        rw [ed] at e
        obtain ⟨ps, d, _, f2, rfl⟩ := Zc8 e
        exact Zoi f2
theorem Zmo (q:Int×Int):AlD 2 (ZhL q):=.inr (.inr ⟨_,rfl,by simp,fun e he=>by
 rcases mem_cons.mp he with rfl|he
 ·exact .inl ⟨_,rfl⟩
 ·rw [mem_singleton.mp he];exact .inl ⟨_,rfl⟩⟩)
theorem Zmp {f:Zbj} (h:f.2.length<=1000000):AlD 4 (fD f):=.inr (.inr ⟨_,rfl,by simp,fun e he=>by
 rcases mem_cons.mp he with rfl|he
 ·exact .inl ⟨_,rfl⟩
 ·rw [mem_singleton.mp he]
  refine .inr (.inr ⟨_,rfl,by rw [length_map];exact h,fun e he=>?_⟩)
  obtain ⟨q,_,rfl⟩:=mem_map.mp he
  exact Zmo q⟩)
theorem Zk9 {fs:List Zbj} (hl:fs.length<=1000000) (h:∀ f∈fs,f.2.length<=1000000):AlD 5 (Zer fs):=.inr (.inr ⟨_,rfl,by rw [length_map];exact hl,fun e he=>by
 obtain ⟨f,hf,rfl⟩:=mem_map.mp he
 exact Zmp (h f hf)⟩)
theorem ZiK {w:Str} {a b:Int} {fs:List Zbj} (h:(ZaM w a b fs).length<=900000):AlD 5 (Zer fs):=by
 have hsz:=Zi2 w a b fs
 have hm:∀ f∈fs,(fT f).length<=900001:=fun f hf=>by
  have:=ZhO (show fT f∈rowT w [a,b]::fs.map fT from mem_cons_of_mem _ (mem_map.mpr ⟨f,hf,rfl⟩))
  lia
 refine Zk9 ?_ fun f hf=>?_
 ·simp only [length_cons,length_map] at hsz
  lia
 ·have h1:=hm f hf
  have h2:=Zc6 (c:=59) (ps:=numS f.1::f.2.map Zei) (cons_ne_nil _ _)
  rw [<-ZdE] at h2
  simp only [length_cons,length_map] at h2
  unfold fT at h1
  lia
theorem Zn2 {sts : List ZaO} (h : (ZfO sts).length <= 900000) (hw : ∀ st ∈ sts, WOk st) : sts.length <= 1000000 /\ ∀ st ∈ sts, st.2.1.length <= 1000000 /\ (∀ f ∈ st.2.1, AlD 6 (Zcp f)) /\ AlD 7 (ZdM st.2.2) := by
  by_cases hn : sts = []
  · subst hn
    exact ⟨by decide, fun st hst => by cases hst⟩
  have hne : (sts.map Za2).flatten ≠ [] := by
    cases sts with
    | nil => exact absurd rfl hn
    | cons d ds => exact cons_ne_nil _ _
  have hsz := Zc6 (c := 10) hne
  rw [<- ZeH, <- Zc5] at hsz
  have hline : ∀ st ∈ sts, ∀ x ∈ Za2 st, x.length <= 900000 := fun st hst x hx => by
    have := ZhO (mem_flatten.mpr ⟨Za2 st, mem_map.mpr ⟨st, hst, rfl⟩, hx⟩)
    have : 0 < ((sts.map Za2).flatten).length := length_pos_iff.mpr hne
    lia
  have hsub : ∀ st ∈ sts, (Za2 st).length <= ((sts.map Za2).flatten).length := fun st hst => (sublist_flatten_of_mem (mem_map.mpr ⟨st, hst, rfl⟩)).length_le
  have hcnt : ∀ (l : List ZaO), l.length <= ((l.map Za2).flatten).length := by
    intro l
    induction l with
    | nil => exact Nat.le_refl _
    | cons d l ih =>
      rw [map_cons, flatten_cons, length_append]
      simp only [length_cons, Za2]
      lia
  have h0 := hcnt sts
  refine ⟨by lia, fun st hst => ⟨?_, fun f hf => ?_, ?_⟩⟩
  · have := hsub st hst
    simp only [Za2, length_cons, length_append, length_map] at this
    lia
  · refine .inr (.inr ⟨_, rfl, by simp, fun e he => ?_⟩)
    rcases mem_cons.mp he with rfl | he
    · exact .inl ⟨_, rfl⟩
    · rcases mem_cons.mp he with rfl | he
      · exact .inl ⟨_, rfl⟩
      · rw [mem_singleton.mp he]
        exact ZiK (hline st hst (ZaM ZaH f.1 f.2.1 f.2.2) (mem_cons_of_mem _ (mem_append_left _ (mem_map.mpr ⟨f, hf, rfl⟩))))
  · obtain ⟨_, d2, d3, _⟩ := ZgE (hw st hst).deed
    refine .inr (.inr ⟨_, rfl, by simp only [length_cons, length_append, length_map]; lia, fun e he => ?_⟩)
    rcases mem_cons.mp he with rfl | he
    · exact .inr (.inl ⟨_, rfl⟩)
    · rcases mem_append.mp he with he | he
      · obtain ⟨n, _, rfl⟩ := mem_map.mp he
        exact .inl ⟨_, rfl⟩
      · obtain ⟨g, hg, rfl⟩ := mem_map.mp he
        refine .inr (.inr ⟨_, rfl, by simp, fun e he => ?_⟩)
        rcases mem_cons.mp he with rfl | he
        · exact .inl ⟨_, rfl⟩
        · rcases mem_cons.mp he with rfl | he
          · exact ZiK (hline st hst (ZaM ZaY g.1 g.2.2 g.2.1) (mem_cons_of_mem _ (mem_append_right _ (mem_cons_of_mem _ (mem_map.mpr ⟨g, hg, rfl⟩)))))
          · rw [mem_singleton.mp he]; exact .inl ⟨_, rfl⟩
theorem Zoo {H:Hp} {sts:List ZaO} {p q:Addr} {vs ws:List V} (h1:H p=some (.lst vs)) (h2:H q=some (.lst ws)) (s1:SAll H sts vs) (s2:SAll H sts ws) (hl:sts.length<=1000000) (ha:∀ st∈sts,st.2.1.length<=1000000/\(∀ f∈st.2.1,AlD 6 (Zcp f))/\AlD 7 (ZdM st.2.2)):AlM H 9 (.ref p) (.ref q):=by
 refine .inr ⟨p,q,vs,ws,rfl,rfl,.inl ⟨h1,h2⟩,s1.1.symm.trans s2.1,by rw [<-s1.1];exact hl,fun i u v eu ev=>?_⟩
 have hi:i < sts.length:=by rw [s1.1];exact (List.getElem?_eq_some_iff.mp eu).1
 have es:=getElem?_eq_getElem hi
 obtain ⟨a1,a2,a3⟩:=ha _ (mem_of_getElem? es)
 obtain ⟨t1,l1,y1,d1,rfl,e1,f1,r1,g1⟩:=s1.2 i _ _ es eu
 obtain ⟨t2,l2,y2,d2,rfl,e2,f2,r2,g2⟩:=s2.2 i _ _ es ev
 refine .inr ⟨t1,t2,_,_,rfl,rfl,.inr ⟨e1,e2⟩,rfl,by simp,fun j u v eu ev=>?_⟩
 rcases j with _|_|_|j
 ·simp at eu ev;subst eu;subst ev;exact .inl ⟨rfl,.inl ⟨_,rfl⟩⟩
 ·simp at eu ev
  subst eu;subst ev
  have k1:=r1.length
  have k2:=r2.length
  rw [length_map] at k1 k2
  refine .inr ⟨l1,l2,y1,y2,rfl,rfl,.inl ⟨f1,f2⟩,by lia,by lia,fun i u v eu ev=>?_⟩
  obtain ⟨x1,c1,b1⟩:=r1.get' eu
  obtain ⟨x2,c2,b2⟩:=r2.get' ev
  rw [c1] at c2
  cases c2
  rw [getElem?_map] at c1
  obtain ⟨r,er,rfl⟩:=Option.map_eq_some_iff.mp c1
  exact al_D (a2 r (mem_of_getElem? er)) b1 b2
 ·simp at eu ev
  subst eu;subst ev
  exact al_D a3 g1 g2
 ·simp at eu
theorem Zn1 {sts:List ZaO} (hne:sts≠[]) (h5:sts.length<=5) (h:∀ st∈sts,SB st):TB 80000 40 1910 (ZfO sts):=by
 obtain ⟨c1,c2⟩:=Zgx h
 have hW:∀ st∈sts,WOk st:=fun st hst=>(h st hst).ok
 have ha:=Zl2 hW
 rw [Zc5,ZeH] at ha ⊢
 have hs:=Zjm c2
 have hn:(sts.map Za2).flatten≠[]:=by
  cases sts with
  | nil=>exact absurd rfl hne
  | cons d ds=>exact cons_ne_nil _ _
 refine TB.join hn (by lia) (fun p hp=>⟨asc_mem.mpr fun c hc=>?_,c2 p hp,?_⟩) (by lia)
 ·obtain ⟨u,w,e⟩:=Zl4 (c:=10) (mem_map.mpr ⟨p,hp,rfl⟩:cs p∈((sts.map Za2).flatten).map cs)
  refine asc_mem.mp ha c ?_
  rw [Zbg]
  show c∈jn 10 _
  rw [e]
  exact mem_append_left _ (mem_append_right _ hc)
 ·obtain ⟨x,hx,hp⟩:=mem_flatten.mp hp
  obtain ⟨st,hst,rfl⟩:=mem_map.mp hx
  rw [Zid] at hp
  obtain ⟨ws,hw,rfl⟩:=mem_map.mp hp
  exact (Zjp (hW st hst) ws hw).free
noncomputable def bF:Nat->Nat
 | 0=>40
 | n+1=>2 * bF n+130
noncomputable def bM:Nat->Nat
 | 0=>1910
 | n+1=>2 * bM n+1000
noncomputable def bL:Nat->Nat
 | 0=>80000
 | n+1=>upL (bL n) (bF n) (bM n)
theorem b_ok:∀ {i:Nat},i < 3->TBok (bL i) (bF i) (bM i)
 | 0,_=>⟨by decide,by decide,by decide⟩
 | 1,_=>⟨by decide,by decide,by decide⟩
 | 2,_=>⟨by decide,by decide,by decide⟩
 | i+3,h=>absurd h (by lia)
theorem b_end:∀ {i:Nat},i<=3->bL i<=900000
 | 0,_=>by decide
 | 1,_=>by decide
 | 2,_=>by decide
 | 3,_=>by decide
 | i+4,h=>absurd h (by lia)
noncomputable def DueV (t:Str) (H:Hp) (v:V):Prop:=(ZdC t=none/\v=.non)\/∃ sts q vs,ZdC t=some sts/\v=.ref q/\H q=some (.lst vs)/\SAll H sts vs
inductive PkV (H:Hp) (b pp:Addr) (y:V):Prop
 | mk (pk p0 p1 p2 p3) (_:y=.ref pk) (_:pk≠b) (_:pk≠pp) (_:H pk=some (.lst [.int p0,.int p1,.int p2,.int p3])) (_:0<=p2/\p2 < 64) (_:0<=p3/\p3 < 19):PkV H b pp y
theorem PkV.bs {H H':Hp} {b pp:Addr} {y:V} (h:PkV H b pp y) (s:BSame b H H'):PkV H' b pp y:=by
 obtain ⟨pk,p0,p1,p2,p3,e,n1,n2,e',r,r'⟩:=h
 exact ⟨pk,p0,p1,p2,p3,e,n1,n2,s _ _ n1 e',r,r'⟩
theorem sc_law:FnScope ["script","bag","picks","k","text","pick","due","found","told"] ["script"] (Zam Zlm):=⟨rfl,rfl,rfl,by decide +kernel,rfl,by decide +kernel,by decide +kernel⟩
theorem Zkp {f:Addr} {fd:FuncData} {Zah ZaA Zav ZaU:Addr} (B:Blt mg) (G:Glb K w mg) (HX:ExH K mg Zah ZaA Zav ZaU) (T__law_draw:TopFn K mg "_law_draw" Zdj ["bag","many"]) (T__law_bag:TopFn K mg "_law_bag" ZdQ ["script"]) (T_read_whole:TopFn K mg "read_whole" ZcK ["text","most"]) (T_read_number:TopFn K mg "read_number" Zcq ["text"]) (T_read_numbers:TopFn K mg "read_numbers" Zb8 ["words","many"]) (T_read_pair:TopFn K mg "read_pair" Zdd ["part"]) (T_read_form:TopFn K mg "read_form" Zdf ["word"]) (T_read_forms:TopFn K mg "read_forms" ZcN ["words"]) (T_read_edge:TopFn K mg "read_edge" Zdg ["words"]) (T_read_frame:TopFn K mg "read_frame" ZcM ["words"]) (T_read_deed:TopFn K mg "read_deed" Zdh ["words","lines"]) (T_read_stand:TopFn K mg "read_stand" ZcL ["group"]) (T_read_lane:TopFn K mg "read_lane" Zde ["text"]) (T__law_read:TopFn K mg "_law_read" Zdi ["text"]) (T__law_number:TopFn K mg "_law_number" Zcs ["bag"]) (T__law_wild_forms:TopFn K mg "_law_wild_forms" ZbH ["bag"]) (T__law_wild_edge:TopFn K mg "_law_wild_edge" ZbO ["bag"]) (T__law_wild_lane:TopFn K mg "_law_wild_lane" ZbN ["bag"]) (T__law_form_written:TopFn K mg "_law_form_written" Zbp ["form"]) (T__law_lane_written:TopFn K mg "_law_lane_written" Zbo ["lane"]) (T__law_any_sign:TopFn K mg "_law_any_sign" ZbW ["bag"]) (T__law_run:TopFn K mg "_law_run" ZdP ["bag"]) (T__law_bent_text:TopFn K mg "_law_bent_text" ZbQ ["text","pick","bag"]) (T__law_each_line:TopFn K mg "_law_each_line" ZbP ["text","pick","bag"]) (T__law_value:TopFn K mg "_law_value" ZcO ["text","most"]) (T__law_bent_lines:TopFn K mg "_law_bent_lines" ZbI ["text","pick"]) (T__law_spoilt:TopFn K mg "_law_spoilt" Zcr ["text","pick","bag"]) (T__law_form_of:TopFn K mg "_law_form_of" Zcb ["text"]) (T__law_line_of:TopFn K mg "_law_line_of" Zb9 ["line"]) (T__law_lane_of:TopFn K mg "_law_lane_of" Zca ["text"]) (T__law_alike:TopFn K mg "_law_alike" Zcf ["found","due"]) (T_law:Fun K "law" "law" Zlm f fd):FnOk P w K mg base CX0 16 f fd ["script"] (Zjs K):=by
 have Zax:=Zh3 (P:=P) (w:=w) (base:=base) B T__law_draw
 have Zld:=Zi8 (P:=P) (w:=w) (base:=base) B T__law_bag
 have Cread_whole:=Zhp (P:=P) (w:=w) (base:=base) B G HX T_read_whole
 have Cread_number:=ZgN (P:=P) (w:=w) (base:=base) B G HX T_read_number Cread_whole
 have Cread_numbers:=ZfQ (P:=P) (w:=w) (base:=base) B G HX T_read_numbers Cread_number
 have Cread_pair:=ZhX (P:=P) (w:=w) (base:=base) B G HX T_read_pair Cread_number
 have Cread_form:=ZhZ (P:=P) (w:=w) (base:=base) B G HX T_read_form Cread_number Cread_pair
 have Cread_forms:=Zhs (P:=P) (w:=w) (base:=base) B G HX T_read_forms Cread_form
 have Cread_edge:=Zh0 (P:=P) (w:=w) (base:=base) B G HX T_read_edge Cread_numbers Cread_forms
 have Cread_frame:=Zhr (P:=P) (w:=w) (base:=base) B G HX T_read_frame Cread_numbers Cread_forms
 have Cread_deed:=Zh1 (P:=P) (w:=w) (base:=base) B G HX T_read_deed Cread_numbers Cread_edge
 have Cread_stand:=Zhq (P:=P) (w:=w) (base:=base) B G HX T_read_stand Cread_numbers Cread_frame Cread_deed
 have Cread_lane:=ZhY (P:=P) (w:=w) (base:=base) B G HX T_read_lane Cread_stand
 have Zja:=Zh2 (P:=P) (w:=w) (base:=base) B HX T__law_read Cread_lane
 have ZaP:=ZgP (P:=P) (w:=w) (base:=base) T__law_number Zax
 have Zbh:=ZeJ (P:=P) (w:=w) (base:=base) B T__law_wild_forms Zax ZaP
 have ZcF:=Ze3 (P:=P) (w:=w) (base:=base) T__law_wild_edge ZaP Zbh
 have ZfL:=Ze2 (P:=P) (w:=w) (base:=base) B T__law_wild_lane Zax ZaP Zbh ZcF
 have ZbB:=Zd4 (P:=P) (w:=w) (base:=base) B T__law_form_written
 have Zew:=Zd3 (P:=P) (w:=w) (base:=base) B T__law_lane_written ZbB
 have Zbe:=ZfH (P:=P) (w:=w) (base:=base) B T__law_any_sign Zax
 have C_law_run:=Zi7 (P:=P) (w:=w) (base:=base) B T__law_run Zax Zbe
 have ZcH:=Ze5 (P:=P) (w:=w) (base:=base) B T__law_bent_text Zbe C_law_run.callee
 have ZcG:=Ze4 (P:=P) (w:=w) (base:=base) B T__law_each_line C_law_run
 have ZbF:=Zht (P:=P) (w:=w) (base:=base) B T__law_value
 have Zcn:=ZeK (P:=P) (w:=w) (base:=base) B T__law_bent_lines
 have Zhz:=ZgO (P:=P) (w:=w) (base:=base) B T__law_spoilt ZcH ZcG Zcn
 have Zdy:=ZfT (P:=P) (w:=w) (base:=base) B T__law_form_of ZbF
 have Zdx:=ZfR (P:=P) (w:=w) (base:=base) B T__law_line_of ZbF Zdy
 have ZgT:=ZfS (P:=P) (w:=w) (base:=base) B T__law_lane_of Zdx
 have Zd6:=Zdw (P:=P) (w:=w) (base:=base) B T__law_alike (Zdw B T__law_alike (Zdw B T__law_alike (Zdw B T__law_alike (Zdw B T__law_alike (Zdw B T__law_alike (Zdw B T__law_alike (Zdw B T__law_alike (Zdw B T__law_alike (al_0 T__law_alike)))))))))
 refine T_law.law (k:=15) sc_law fun cdv A outer s H a ns Q E hr hS hlen k=>?_
 have nd:=sc_law.nd
 have hu:=hr.units
 refine' Zbl [some (.ref a),none,none,none,none,none,none,none,none] rfl ?hb ?hg
 case' hb=>refine' Zae ?bab ?bac
 case bab=>exact (Zbk (i:=1) nd rfl (Or.inl rfl) (Za7 Zld (hr.mono (by first|decide|lia)) (by rfl) (Zac (pv 0) Zab)))
 case' bac=>refine' Zae ?bad ?bae
 case bad=>exact (Zcm (i:=2) nd rfl (Or.inl rfl) (Zba Zab))
 case' bae=>refine' Zae ?baf ?bag
 case' baf=>refine' Zch ?bah ?bai ?baj ?bak ?bal
 case bah=>exact PassesOwn.never
 case bai=>exact rfl
 case' baj=>refine' ZbL ?bam ?ban ?bao
 case bam=>exact rfl
 case ban=>exact B.b_range
 case bao=>exact (Zay (Za7 Zax (hr.mono (by first|decide|lia)) (by rfl) (Zac (pv 1) (Zaf Zaa Zab))) Zab)
 case bak=>exact (ZaE (i:=3) nd rfl (Or.inl rfl))
 case' bal=>refine' Zag ?bap
 case' bap=>refine' Zby ?baq
 case' baq=>refine' k_bm (K:=K) ?bar ?bas ?bat ?bau ?bav ?baw ?bax
 case bar=>exact rfl
 case bas=>exact PySem.F.plainAttrs_list
 case bat=>exact PySem.F.slot_list_append
 case bau=>exact PySem.F.type_list_append
 case bav=>exact Za3
 case baw=>exact (pv 2)
 case' bax=>refine' Zgs ?bay ?baz
 case' bay=>refine' Zba ?bba
 case' bba=>refine' Zay ?bbb ?bbc
 case bbb=>exact (Za7 Zax (hr.mono (by first|decide|lia)) (by rfl) (Zac (pv 1) (Zaf Zaa Zab)))
 case' bbc=>refine' Zay ?bbd ?bbe
 case bbd=>exact (Za7 Zax (hr.mono (by first|decide|lia)) (by rfl) (Zac (pv 1) (Zbi (Zar Zis Zaa Zaa) Zab)))
 case' bbe=>refine' Zay ?bbf ?bbg
 case bbf=>exact (Za7 Zax (hr.mono (by first|decide|lia)) (by rfl) (Zac (pv 1) (Zaf Zaa Zab)))
 case bbg=>exact (Zay (Za7 Zax (hr.mono (by first|decide|lia)) (by rfl) (Zac (pv 1) (Zaf Zaa Zab))) Zab)
 case baz=>exact Zab
 case' bag=>refine' Zae ?bbh ?bbi
 case' bbh=>refine' Zbk (i:=4) ?bbj ?bbk ?bbl ?bbm
 case bbj=>exact nd
 case bbk=>exact rfl
 case bbl=>exact (Or.inl rfl)
 case' bbm=>refine' Za7 ?bbn ?bbo ?bbp ?bbq
 case bbn=>exact Zew
 case bbo=>exact (hr.mono (by first|decide|lia))
 case bbp=>exact (by rfl)
 case bbq=>exact (Zay (Za7 ZfL (hr.mono (by first|decide|lia)) (by rfl) (Zac (pv 1) Zab)) Zab)
 case' bbi=>refine' Zae ?bbr ?bbs
 case' bbr=>refine' Zch ?bbt ?bbu ?bbv ?bbw ?bbx
 case bbt=>exact PassesOwn.never
 case bbu=>exact rfl
 case bbv=>exact (Za4 (K:=K) rfl (pv 2))
 case bbw=>exact (ZaE (i:=5) nd rfl (Or.inl rfl))
 case' bbx=>refine' Zag ?bby
 case' bby=>refine' Zbk (i:=4) ?bbz ?bca ?bcb ?bcc
 case bbz=>exact nd
 case bca=>exact rfl
 case bcb=>exact (Or.inl rfl)
 case bcc=>exact (Za7 Zhz (hr.mono (by first|decide|lia)) (by rfl) (Zac (pv 4) (Zac (pv 5) (Zac (pv 1) Zab))))
 case' bbs=>refine' Zae ?bcd ?bce
 case bcd=>exact (Zbk (i:=6) nd rfl (Or.inl rfl) (Za7 ZgT (hr.mono (by first|decide|lia)) (by rfl) (Zac (pv 4) Zab)))
 case' bce=>refine' Zae ?bcf ?bcg
 case' bcf=>refine' Zch ?bch ?bci ?bcj ?bck ?bcl
 case bch=>exact PassesOwn.never
 case bci=>exact rfl
 case bcj=>exact (ZbL rfl B.b_range (Zaf Zaa Zab))
 case bck=>exact (ZaE (i:=3) nd rfl (Or.inl rfl))
 case' bcl=>refine' Zae ?bcm ?bcn
 case' bcm=>refine' ZcQ ?bco ?bcp
 case bco=>exact (Za7 Zja (hr.mono (by first|decide|lia)) (by rfl) (Zac (pv 4) Zab))
 case bcp=>exact (Zeo (K:=K) (n:=2) rfl rfl (ZbJ (ZaE (i:=7) nd rfl (Or.inl rfl)) (ZbJ (ZaE (i:=8) nd rfl (Or.inl rfl)) Zfp)))
 case' bcn=>refine' Zae ?bcq ?bcr
 case' bcq=>refine' Za1 ?bcs ?bct ?bcu
 case' bcs=>refine' PW.pt ?bcv
 case' bcv=>refine' ZcP ?bcw ?bcx
 case bcw=>exact (Zal Zfv (pv 6) ZbZ (Zas _))
 case' bcx=>refine' ZbX ?bcy
 case' bcy=>refine' PW.pt ?bcz
 case' bcz=>refine' ZeZ ?bda ?bdb
 case bda=>exact (Zal Zit (pv 7) ZbZ (Zas _))
 case bdb=>exact (Zeg (Zal (op_neA hu) (pv 8) (Zba (Zaf Zgr (Zaf Zgr (Zaf Zgr Zab)))) (Zas _)))
 case bct=>exact (Zag (ZaD Zgr))
 case bcu=>exact Zaz
 case' bcr=>refine' Zag ?bdc
 case' bdc=>refine' Za1 ?bdd ?bde ?bdf
 case' bdd=>refine' PW.pt ?bdg
 case' bdg=>refine' ZcP ?bdh ?bdi
 case bdh=>exact (Zal Zit (pv 6) ZbZ (Zas _))
 case' bdi=>refine' ZbX ?bdj
 case' bdj=>refine' PW.pt ?bdk
 case' bdk=>refine' ZeZ ?bdl ?bdm
 case bdl=>exact (Zal (k_neE (K:=K) rfl hu) (pv 8) (Zba Zab) (Zas _))
 case bdm=>exact (Zeg (ZjY (Zf4 (Za7 Zd6 (hr.mono (by first|decide|lia)) (by rfl) (Zac (pv 7) (Zac (pv 6) Zab))))))
 case bde=>exact (Zag (ZaD Zgr))
 case bdf=>exact Zaz
 case bcg=>exact (Zag (ZaD Zgr))
 walk_at"rd"
 refine use1 ⟨a,ns,rfl,hS,hlen,fun b l H1 _ _ B1=>?_⟩
 walk_at"rd"
 walk_at"mk";intro pp hpp
 have npp:=B1.ne hpp
 have s2:=Same.new (o:=.lst []) hpp
 have e2:upd H1 pp (.lst []) pp=some (.lst []):=Zad
 have B2:=B1.mono s2
 generalize upd H1 pp (.lst [])=H2 at s2 e2 B2
 walk_at"rd"
 refine use2 ⟨b,l,4,rfl,rfl,⟨by decide,by decide⟩,B2,fun r H3 r0' r1 B3 b3=>?_⟩
 have e3:=b3 _ _ (Ne.symm npp.1) e2
 walk_at"rd"
 refine ZdY (by lia) (by lia) ?_
 refine Zf9 (n:=r.toNat) (fun i σ Hx=>Ex2 fun x3 ys=>An5 (σ=[some (.ref a),some (.ref b),some (.ref pp),x3,none,none,none,none,none]) (Hx pp=some (.lst ys)) (ys.length=i) (∀ y∈ys,PkV Hx b pp y) (BagAt Hx b l)) ⟨none,[],rfl,e3,rfl,fun y hy=>(by cases hy),B3⟩ ?_ ?_
 ·rintro i σ Hx hi ⟨x3,ys,rfl,ex,hyl,hpk,Bx⟩ N hN
  walk_at"rd"
  refine ⟨.inl ⟨rfl,ys,SqL.of ex⟩,?_⟩
  walk_at"rd"
  refine use2 ⟨b,l,16,rfl,rfl,⟨by decide,by decide⟩,Bx,fun p0 H4 _ _ B4 b4=>?_⟩
  walk_at"rd"
  refine rd_I (⟨by decide,by decide,by decide⟩:CPow 10 6) ?_
  walk_at"rd"
  refine use2 ⟨b,l,_,rfl,rfl,⟨by decide +kernel,by decide +kernel⟩,B4,fun p1 H5 _ _ B5 b5=>?_⟩
  walk_at"rd"
  refine use2 ⟨b,l,64,rfl,rfl,⟨by decide,by decide⟩,B5,fun p2 H6 l2 u2 B6 b6=>?_⟩
  walk_at"rd"
  refine use2 ⟨b,l,19,rfl,rfl,⟨by decide,by decide⟩,B6,fun p3 H7 l3 u3 B7 b7=>?_⟩
  have b47:=((b4.trans b5).trans b6).trans b7
  have e7:=b47 _ _ (Ne.symm npp.1) ex
  walk_at"rd"
  refine ⟨show 4<=PySem.sizeLine by rw [PySem.sizeLine_eq];decide,fun pk hpk7=>?_⟩
  have npk:pk≠b:=fun z=>(B7.ne hpk7).1 z.symm
  have npq:pk≠pp:=fun z=>by rw [z,e7] at hpk7;cases hpk7
  have s8:=Same.new (o:=.lst [V.int p0,V.int p1,V.int p2,V.int p3]) hpk7
  have e8:upd H7 pk (.lst [V.int p0,V.int p1,V.int p2,V.int p3]) pk=some (.lst [V.int p0,V.int p1,V.int p2,V.int p3]):=Zad
  have B8:=B7.mono s8
  generalize upd H7 pk (.lst [V.int p0,V.int p1,V.int p2,V.int p3])=H8 at s8 e8 B8
  walk_at"rd"
  refine ZaV (s8 _ _ e7) (Nat.lt_of_le_of_lt (show ys.length<=1000000 by lia) (by rw [PySem.sizeLine_eq];decide)) ?_
  refine hN _ _ ⟨_,_,rfl,Zad,by simp [hyl],fun y hy=>?_,B8.wr npp.1 npp.2⟩
  rcases mem_append.mp hy with hy|hy
  ·obtain ⟨pk',q0,q1,q2,q3,e,n1,n2,e',rr,rs⟩:=hpk y hy
   exact ⟨pk',q0,q1,q2,q3,e,n1,n2,by rw [Zat n2];exact s8 _ _ (b47 _ _ n1 e'),rr,rs⟩
  ·exact ⟨pk,p0,p1,p2,p3,mem_singleton.mp hy,npk,npq,by rw [Zat npq];exact e8,⟨l2,u2⟩,⟨l3,u3⟩⟩
 rintro σ Hx ⟨x3,ys,rfl,ex,hyl,hpk,Bx⟩
 have hy3:ys.length<=3:=by lia
 walk_at"rd"
 refine use1 ⟨b,l,rfl,Bx,fun sts q vs H4 sne s5 SBs hq nqb hq4 SA4 B4 b4=>?_⟩
 have e4:=b4 _ _ (Ne.symm npp.1) ex
 have hpk4:∀ y∈ys,PkV H4 b pp y:=fun y hy=>(hpk y hy).bs b4
 walk_at"rd"
 refine use1 ⟨q,sts,vs,rfl,hq4,SA4,SBs,s5,fun H5 s5'=>?_⟩
 have e5:=s5' _ _ e4
 have B5:=B4.mono s5'
 have hpk5:∀ y∈ys,PkV H5 b pp y:=fun y hy=>(hpk4 y hy).bs (BSame.of s5')
 have tx:=Zn1 sne s5 SBs
 generalize ZfO sts=t0 at tx
 clear SA4 hq4 hpk4 e4 B4 b4 hpk Bx ex
 walk_at"rd"
 refine Zb4 (SqL.of e5) ?_
 refine ZcD (xs:=ys) (fun i σ Hz=>Ex2 fun (t:Str) (c5:Option V)=>An4 (σ=[some (.ref a),some (.ref b),some (.ref pp),x3,some (.str t),c5,none,none,none]) (TB (bL i) (bF i) (bM i) t) (BagAt Hz b l) (BSame b H5 Hz)) ⟨t0,none,rfl,tx,B5,BSame.refl _ _⟩ (fun i σ Hz _ z_=>by obtain ⟨_,_,_,_,_,bz⟩:=z_;exact SqL.of (bz _ _ (Ne.symm npp.1) e5)) ?_ ?_
 ·rintro i x σ Hz hx ⟨t,c5,rfl,tb,Bz,bz⟩ N hN
  obtain ⟨pk,p0,p1,p2,p3,rfl,npk,_,epk,g2,g3⟩:=hpk5 x (mem_of_getElem? hx)
  have hi2:i < 3:=by
   have h1:=(List.getElem?_eq_some_iff.mp hx).1
   lia
  walk_at"rd"
  refine use3 ⟨t,bL i,bF i,bM i,pk,p0,p1,p2,p3,b,l,rfl,tb,b_ok hi2,rfl,bz _ _ npk epk,npk,rfl,Bz,g2,g3,fun t' HD tb' BD bD=>?_⟩
  walk_at"rd"
  exact hN _ _ ⟨t',_,rfl,tb',BD,bz.trans bD⟩
 rintro σ Hz ⟨t,c5,rfl,tb,Bz,bz⟩
 have tl:=Nat.le_trans tb.len (b_end hy3)
 have ta:=tb.asc
 clear tb Bz bz
 walk_at"rd"
 rename_i Q1
 have main:∀ v HA,DueV t HA v->Q1 v HA:=?_
 ·exact use1 ⟨t,rfl,tl,ta,fun ds q vs H' e h1 h2 s=>main _ _ (.inr ⟨ds,q,vs,e,rfl,h1,h2⟩),fun e H' s=>main _ _ (.inl ⟨e,rfl⟩)⟩
 intro v HA dv
 clear hpk5 e5 B5 s5'
 show Zd2 6 v _ HA _
 walk_at"rd"
 refine ZdY (by decide) (by decide) ?_
 refine Zf9 (n:=2) (fun i σ Hx=>Ex3 fun c4 c7 c8=>σ=[some (.ref a),some (.ref b),some (.ref pp),c4,some (.str t),c5,some v,c7,c8]/\DueV t Hx v) ⟨_,none,none,rfl,dv⟩ ?_ ?_
 ·rintro i σ Hx hi ⟨c4,c7,c8,rfl,dx⟩ N hN
  walk_at"rd"
  refine use1 ⟨t,rfl,tl,ta,fun ds1 p q1 e zs H2 hw hqB SAB ep ee s12=>?_,fun p q1 H2 hw ep eq s2=>?_⟩
  ·refine ZeE ep rfl ?_
   rcases dx with ⟨z,_⟩|⟨ds2,q2,vs2,er,rfl,h2,D2⟩
   ·rw [z] at hw;cases hw
   rw [hw] at er
   cases er
   obtain ⟨te,hW⟩:=lane_W hw
   obtain ⟨hl1,hl2⟩:=Zn2 (by rw [te];exact tl) hW
   walk_at"rd"
   refine Zco (fun z=>by cases z) ?_
   walk_at"rd"
   try dsimp only
   walk_at"rd"
   refine ZhS rfl ?_
   walk_at"rd"
   walk_at"mk";intro pe hpe
   have s6:=Same.new (o:=.lst []) hpe
   have e6:upd H2 pe (.lst []) pe=some (.lst []):=Zad
   generalize upd H2 pe (.lst [])=H6 at s6 e6
   refine rd_neE (s6 _ _ ee) e6 ?_
   walk_at"rd"
   refine ZdJ (fun g=>absurd rfl g) (fun _=>?_)
   walk_at"rd"
   refine use2 ⟨Zoo (s6 _ _ hqB) ((s12.trans s6) _ _ h2) (SAB.mono s6) (D2.mono (s12.trans s6)) hl1 hl2,fun H7 s7=>?_⟩
   refine ⟨_,rfl,?_⟩
   refine Zhg (by decide) ?_
   walk_at"rd"
   exact hN _ _ ⟨_,_,_,rfl,.inr ⟨ds1,q2,vs2,hw,rfl,((s12.trans s6).trans s7) _ _ h2,D2.mono ((s12.trans s6).trans s7)⟩⟩
  ·refine ZeE ep rfl ?_
   rcases dx with ⟨_,rfl⟩|⟨ds2,q2,vs2,er,_⟩
   ·walk_at"rd"
    refine Zc7 rfl ?_
    walk_at"rd"
    refine Zhg rfl ?_
    walk_at"rd"
    walk_at"mk";intro pf hpf
    have s7:=Same.new (o:=.lst [V.bl true,V.bl true,V.bl false]) hpf
    refine rd_neA (Zk8 (s7 _ _ eq) Zad rfl (Zh6 (Alike.refl _ trivial) (Zh6 (Alike.refl _ trivial) (Zh6 (Alike.refl _ trivial) al_nil)))) ?_
    walk_at"rd"
    try dsimp only
    walk_at"rd"
    refine Zhg rfl ?_
    walk_at"rd"
    exact hN _ _ ⟨_,_,_,rfl,.inl ⟨hw,rfl⟩⟩
   ·rw [hw] at er;cases er
 ·rintro σ Hx ⟨c4,c7,c8,rfl,dx⟩
  walk_at"rd"
  exact k _
end
end My
end
end
namespace My
open PySem L2
section
open PySem.W PyProof.Rows
noncomputable def KK (P:Params):Frag:=[
(3,oD #[xe P "__name__" 165 (xs "law_midlanes_k72_lane_texts_that_are_none" 368),xe P "__doc__" 166 (.none),xe P "__package__" 167 (.none),xe P "__loader__" 168 (.builtin "__main__.__loader__#opaque"),xe P "__spec__" 169 (.none),xf P "__annotations__" 170 6,xf P "__builtins__" 171 4,xe P "__file__" 173 (xs "/claim/cut.py" 172),xe P "__cached__" 174 (.none),xf P "LaneError" 206 24,xf P "NoText" 222 37,xf P "NotFormed" 238 49,xf P "Faulty" 265 68,xf P "DEED_PARTS" 286 71,xe P "FIGURES" 290 (xs "0123456789" 289),xf P "read_whole" 296 82,xe P "MOST_FIGURES" 300 (xi (300) 299),xf P "read_lane" 306 87,xf P "read_stand" 312 92,xf P "read_frame" 320 99,xf P "read_deed" 326 104,xf P "read_edge" 334 111,xf P "read_forms" 340 116,xf P "read_form" 346 121,xf P "read_pair" 354 128,xf P "read_numbers" 360 133,xf P "read_number" 367 140,xf P "_law_bag" 375 145,xf P "_law_draw" 384 152,xf P "_law_number" 391 159,xf P "_law_wild_forms" 397 164,xf P "_law_wild_edge" 404 171,xf P "_law_wild_lane" 418 178,xf P "_law_form_written" 424 183,xf P "_law_lane_written" 430 188,xf P "_law_any_sign" 438 195,xf P "_law_run" 444 200,xf P "_law_bent_text" 450 205,xf P "_law_bent_lines" 465 212,xf P "_law_each_line" 477 219,xf P "_law_spoilt" 486 226,xf P "_law_value" 492 231,xf P "_law_form_of" 503 238,xf P "_law_line_of" 509 243,xf P "_law_lane_of" 520 250,xf P "_law_read" 530 257,xf P "_law_alike" 536 262,xf P "law" 551 269] 48),
(22,oT #[]),
(23,oD #[xe P "__module__" 196 (xs "midlanes.errors" 187),xe P "__firstlineno__" 200 (xi (2) 199),xf P "__static_attributes__" 201 22,xf P "__weakref__" 203 25,xe P "__doc__" 204 (.none)] 3),
(24,⟨.type "type",none,.cls { name:=Str.ofString "LaneError",bases:=[.type "ValueError"],mro:=[xr 24,.type "ValueError",.type "Exception",.type "BaseException",.type "object"],ns:=23,qualname:=Str.ofString "LaneError",hasDict:=true,subclasses:=[xr 37,xr 49,xr 68],abstract:=false,hasDel:=false },#[some (xr 15),none,some (xs "LaneError" 189),some (xs "LaneError" 197),some (.builtin "ValueError.__new__"),some (.bool true)]⟩),
(35,oT #[]),
(36,oD #[xe P "__module__" 214 (xs "midlanes.errors" 187),xe P "__firstlineno__" 218 (xi (4) 217),xf P "__static_attributes__" 219 35,xe P "__doc__" 220 (.none)] 2),
(37,⟨.type "type",none,.cls { name:=Str.ofString "NoText",bases:=[xr 24],mro:=[xr 37,xr 24,.type "ValueError",.type "Exception",.type "BaseException",.type "object"],ns:=36,qualname:=Str.ofString "NoText",hasDict:=true,subclasses:=[],abstract:=false,hasDel:=false },#[some (xr 28),none,some (xs "NoText" 207),some (xs "NoText" 215),some (.builtin "ValueError.__new__"),some (.bool true)]⟩),
(47,oT #[]),
(48,oD #[xe P "__module__" 230 (xs "midlanes.errors" 187),xe P "__firstlineno__" 234 (xi (6) 233),xf P "__static_attributes__" 235 47,xe P "__doc__" 236 (.none)] 2),
(49,⟨.type "type",none,.cls { name:=Str.ofString "NotFormed",bases:=[xr 24],mro:=[xr 49,xr 24,.type "ValueError",.type "Exception",.type "BaseException",.type "object"],ns:=48,qualname:=Str.ofString "NotFormed",hasDict:=true,subclasses:=[],abstract:=false,hasDel:=false },#[some (xr 40),none,some (xs "NotFormed" 223),some (xs "NotFormed" 231),some (.builtin "ValueError.__new__"),some (.bool true)]⟩),
(66,oT #[xs "k" 260,xs "word" 261]),
(67,oD #[xe P "__module__" 246 (xs "midlanes.errors" 187),xe P "__firstlineno__" 250 (xi (8) 249),xf P "__init__" 259 65,xf P "__static_attributes__" 262 66,xe P "__doc__" 263 (.none)] 2),
(68,⟨.type "type",none,.cls { name:=Str.ofString "Faulty",bases:=[xr 24],mro:=[xr 68,xr 24,.type "ValueError",.type "Exception",.type "BaseException",.type "object"],ns:=67,qualname:=Str.ofString "Faulty",hasDict:=true,subclasses:=[],abstract:=false,hasDel:=false },#[some (xr 52),none,some (xs "Faulty" 239),some (xs "Faulty" 247),some (.builtin "ValueError.__new__"),some (.bool true)]⟩),
(71,oD #[xf P "go" 266 72,xf P "test" 268 73,xf P "tell" 271 74,xf P "take" 273 75,xf P "hold" 275 76,xf P "leave" 279 77] 6),
(72,oT #[xs "edge" 267]),
(73,oT #[xs "edge" 269,xs "edge" 270]),
(74,oT #[xs "edge" 272]),
(75,oT #[xs "edge" 274]),
(76,oT #[xs "number" 276,xs "number" 277,xs "edge" 278]),
(77,oT #[]),
(81,oK "read_whole" 291 16 2 78),
(82,oG "read_whole" ZcK "midlanes.texts" 287 81),
(86,oK "read_lane" 301 25 1 83),
(87,oG "read_lane" Zde "midlanes.books" 297 86),
(91,oK "read_stand" 307 35 1 88),
(92,oG "read_stand" ZcL "midlanes.books" 297 91),
(98,oC #[xs "read_frame" 313,xs "read_frame" 314,xs "/claim/cut.py" 315,xi (44) 0,xi (1) 0,xi (0) 0,xi (0) 0,xi (3) 0,xr 93,.bool true,xi (181) 0,xr 94,.none,xr 95,xr 96,xr 97,xi (318) 0,xi (44) 0,xs "/claim/cut.py" 319]),
(99,oG "read_frame" ZcM "midlanes.books" 297 98),
(103,oK "read_deed" 321 47 2 100),
(104,oG "read_deed" Zdh "midlanes.books" 297 103),
(110,oC #[xs "read_edge" 327,xs "read_edge" 328,xs "/claim/cut.py" 329,xi (55) 0,xi (1) 0,xi (0) 0,xi (0) 0,xi (3) 0,xr 105,.bool true,xi (181) 0,xr 106,.none,xr 107,xr 108,xr 109,xi (332) 0,xi (55) 0,xs "/claim/cut.py" 333]),
(111,oG "read_edge" Zdg "midlanes.books" 297 110),
(115,oK "read_forms" 335 60 1 112),
(116,oG "read_forms" ZcN "midlanes.books" 297 115),
(120,oK "read_form" 341 62 1 117),
(121,oG "read_form" Zdf "midlanes.books" 297 120),
(127,oC #[xs "read_pair" 347,xs "read_pair" 348,xs "/claim/cut.py" 349,xi (65) 0,xi (1) 0,xi (0) 0,xi (0) 0,xi (3) 0,xr 122,.bool true,xi (181) 0,xr 123,.none,xr 124,xr 125,xr 126,xi (352) 0,xi (65) 0,xs "/claim/cut.py" 353]),
(128,oG "read_pair" Zdd "midlanes.books" 297 127),
(132,oK "read_numbers" 355 70 2 129),
(133,oG "read_numbers" Zb8 "midlanes.books" 297 132),
(139,oC #[xs "read_number" 361,xs "read_number" 362,xs "/claim/cut.py" 363,xi (74) 0,xi (1) 0,xi (0) 0,xi (0) 0,xi (3) 0,xr 134,.bool true,xi (181) 0,xr 135,.none,xr 136,xr 137,xr 138,xi (365) 0,xi (74) 0,xs "/claim/cut.py" 366]),
(140,oG "read_number" Zcq "midlanes.books" 297 139),
(144,oK "_law_bag" 370 77 1 141),
(145,oG "_law_bag" ZdQ "law_midlanes_k72_lane_texts_that_are_none" 368 144),
(151,oC #[xs "_law_draw" 376,xs "_law_draw" 377,xs "/claim/cut.py" 378,xi (82) 0,xi (2) 0,xi (0) 0,xi (0) 0,xi (3) 0,xr 146,.bool true,xi (181) 0,xr 147,.none,xr 148,xr 149,xr 150,xi (382) 0,xi (82) 0,xs "/claim/cut.py" 383]),
(152,oG "_law_draw" Zdj "law_midlanes_k72_lane_texts_that_are_none" 368 151),
(158,oC #[xs "_law_number" 385,xs "_law_number" 386,xs "/claim/cut.py" 387,xi (93) 0,xi (1) 0,xi (0) 0,xi (0) 0,xi (3) 0,xr 153,.bool true,xi (181) 0,xr 154,.none,xr 155,xr 156,xr 157,xi (389) 0,xi (93) 0,xs "/claim/cut.py" 390]),
(159,oG "_law_number" Zcs "law_midlanes_k72_lane_texts_that_are_none" 368 158),
(163,oK "_law_wild_forms" 392 97 1 160),
(164,oG "_law_wild_forms" ZbH "law_midlanes_k72_lane_texts_that_are_none" 368 163),
(170,oC #[xs "_law_wild_edge" 398,xs "_law_wild_edge" 399,xs "/claim/cut.py" 400,xi (103) 0,xi (1) 0,xi (0) 0,xi (0) 0,xi (3) 0,xr 165,.bool true,xi (181) 0,xr 166,.none,xr 167,xr 168,xr 169,xi (402) 0,xi (103) 0,xs "/claim/cut.py" 403]),
(171,oG "_law_wild_edge" ZbO "law_midlanes_k72_lane_texts_that_are_none" 368 170),
(177,oC #[xs "_law_wild_lane" 405,xs "_law_wild_lane" 406,xs "/claim/cut.py" 407,xi (105) 0,xi (1) 0,xi (0) 0,xi (0) 0,xi (3) 0,xr 172,.bool true,xi (181) 0,xr 173,.none,xr 174,xr 175,xr 176,xi (416) 0,xi (105) 0,xs "/claim/cut.py" 417]),
(178,oG "_law_wild_lane" ZbN "law_midlanes_k72_lane_texts_that_are_none" 368 177),
(182,oK "_law_form_written" 419 120 1 179),
(183,oG "_law_form_written" Zbp "law_midlanes_k72_lane_texts_that_are_none" 368 182),
(187,oK "_law_lane_written" 425 122 1 184),
(188,oG "_law_lane_written" Zbo "law_midlanes_k72_lane_texts_that_are_none" 368 187),
(194,oC #[xs "_law_any_sign" 431,xs "_law_any_sign" 432,xs "/claim/cut.py" 433,xi (138) 0,xi (1) 0,xi (0) 0,xi (0) 0,xi (3) 0,xr 189,.bool true,xi (181) 0,xr 190,.none,xr 191,xr 192,xr 193,xi (436) 0,xi (138) 0,xs "/claim/cut.py" 437]),
(195,oG "_law_any_sign" ZbW "law_midlanes_k72_lane_texts_that_are_none" 368 194),
(199,oK "_law_run" 439 144 1 196),
(200,oG "_law_run" ZdP "law_midlanes_k72_lane_texts_that_are_none" 368 199),
(204,oK "_law_bent_text" 445 152 3 201),
(205,oG "_law_bent_text" ZbQ "law_midlanes_k72_lane_texts_that_are_none" 368 204),
(211,oC #[xs "_law_bent_lines" 451,xs "_law_bent_lines" 452,xs "/claim/cut.py" 453,xi (165) 0,xi (2) 0,xi (0) 0,xi (0) 0,xi (3) 0,xr 206,.bool true,xi (181) 0,xr 207,.none,xr 208,xr 209,xr 210,xi (463) 0,xi (165) 0,xs "/claim/cut.py" 464]),
(212,oG "_law_bent_lines" ZbI "law_midlanes_k72_lane_texts_that_are_none" 368 211),
(218,oC #[xs "_law_each_line" 466,xs "_law_each_line" 467,xs "/claim/cut.py" 468,xi (192) 0,xi (3) 0,xi (0) 0,xi (0) 0,xi (3) 0,xr 213,.bool true,xi (181) 0,xr 214,.none,xr 215,xr 216,xr 217,xi (475) 0,xi (192) 0,xs "/claim/cut.py" 476]),
(219,oG "_law_each_line" ZbP "law_midlanes_k72_lane_texts_that_are_none" 368 218),
(225,oC #[xs "_law_spoilt" 478,xs "_law_spoilt" 479,xs "/claim/cut.py" 480,xi (205) 0,xi (3) 0,xi (0) 0,xi (0) 0,xi (3) 0,xr 220,.bool true,xi (181) 0,xr 221,.none,xr 222,xr 223,xr 224,xi (484) 0,xi (205) 0,xs "/claim/cut.py" 485]),
(226,oG "_law_spoilt" Zcr "law_midlanes_k72_lane_texts_that_are_none" 368 225),
(230,oK "_law_value" 487 211 2 227),
(231,oG "_law_value" ZcO "law_midlanes_k72_lane_texts_that_are_none" 368 230),
(237,oC #[xs "_law_form_of" 493,xs "_law_form_of" 494,xs "/claim/cut.py" 495,xi (220) 0,xi (1) 0,xi (0) 0,xi (0) 0,xi (3) 0,xr 232,.bool true,xi (181) 0,xr 233,.none,xr 234,xr 235,xr 236,xi (501) 0,xi (220) 0,xs "/claim/cut.py" 502]),
(238,oG "_law_form_of" Zcb "law_midlanes_k72_lane_texts_that_are_none" 368 237),
(242,oK "_law_line_of" 504 231 1 239),
(243,oG "_law_line_of" Zb9 "law_midlanes_k72_lane_texts_that_are_none" 368 242),
(249,oC #[xs "_law_lane_of" 510,xs "_law_lane_of" 511,xs "/claim/cut.py" 512,xi (248) 0,xi (1) 0,xi (0) 0,xi (0) 0,xi (3) 0,xr 244,.bool true,xi (181) 0,xr 245,.none,xr 246,xr 247,xr 248,xi (518) 0,xi (248) 0,xs "/claim/cut.py" 519]),
(250,oG "_law_lane_of" Zca "law_midlanes_k72_lane_texts_that_are_none" 368 249),
(256,oC #[xs "_law_read" 521,xs "_law_read" 522,xs "/claim/cut.py" 523,xi (269) 0,xi (1) 0,xi (0) 0,xi (0) 0,xi (3) 0,xr 251,.bool true,xi (181) 0,xr 252,.none,xr 253,xr 254,xr 255,xi (528) 0,xi (269) 0,xs "/claim/cut.py" 529]),
(257,oG "_law_read" Zdi "law_midlanes_k72_lane_texts_that_are_none" 368 256),
(261,oK "_law_alike" 531 277 2 258),
(262,oG "_law_alike" Zcf "law_midlanes_k72_lane_texts_that_are_none" 368 261),
(268,oC #[xs "law" 537,xs "law" 538,xs "/claim/cut.py" 539,xi (287) 0,xi (1) 0,xi (0) 0,xi (0) 0,xi (3) 0,xr 263,.bool true,xi (181) 0,xr 264,.none,xr 265,xr 266,xr 267,xi (549) 0,xi (287) 0,xs "/claim/cut.py" 550]),
(269,oG "law" Zlm "law_midlanes_k72_lane_texts_that_are_none" 368 268)]
noncomputable def AA:List Addr:=[3,22,23,24,35,36,37,47,48,49,66,67,68,71,72,73,74,75,76,77,81,82,86,87,91,92,98,99,103,104,110,111,115,116,120,121,127,128,132,133,139,140,144,145,151,152,158,159,163,164,170,171,177,178,182,183,187,188,194,195,199,200,204,205,211,212,218,219,225,226,230,231,237,238,242,243,249,250,256,257,261,262,268,269]
theorem AK:∀ P,AA=(KK P).map (·.1):=fun _=>by kernel_rfl
noncomputable abbrev HH:Hook:=kHook KK AA AK
noncomputable def QQ:Program:=view PySem.Challenge.pw_midlanes_k72_lane_texts_that_are_none [1,2,3,4,5,7,8,10,11,12,13,14,15,16,17,18,19,20,22,23,24,25,26,27,28,29,30,31,32,33,34,35,36,37,38,39,40,41,42]
theorem LL:LeftO PySem.Challenge.pw_midlanes_k72_lane_texts_that_are_none QQ ["DEED_PARTS"] (fun s=>xlAt QQ [] s && recOk PySem.Challenge.rw_midlanes_k72_lane_texts_that_are_none.row.records s) HH.obs HH.val 4034:=L2.Zko "special-get-raises" (by kernel_rfl) (by kernel_rfl) (fun s=>by kernel_rfl) fun b w os=>by
 cases b
 ·kernel_rfl
 ·kernel_rfl
theorem SD:OpenLaw.wellSaid PySem.Challenge.rw_midlanes_k72_lane_texts_that_are_none=true:=by
 rw [Fast.te9446332074065402090]
 kernel_rfl
theorem Zn0 (w:World) {mg:Str->Option Value} {fa:Addr} {h:Heap} (X:(KK w.params).In h) (G:h.Ns mainGlobals mg) (hfa:mg "law"=some (.ref fa)):∃ fd:FuncData,(∀ (s:Shared) (v:Value),BindsTo s fd ⟨[v],[]⟩ [("script",v)])/\∀ base:Heap,(KK w.params).In base->base.Ns mainGlobals mg->FnOk PySem.Challenge.rw_midlanes_k72_lane_texts_that_are_none.prog w (KK w.params) mg base CX0 16 fa fd ["script"] (Zjs (KK w.params)):=by
 cases hfa.symm.trans (gv X G (v:=.ref 269))
 have HX:ExH (KK w.params) mg 37 24 49 68:=⟨gv X G,by unfold ExcC;kernel_rfl,gv X G,gv X G,gv X G,by kernel_rfl,⟨by kernel_rfl,by kernel_rfl,by kernel_rfl,by kernel_rfl,by kernel_rfl,by kernel_rfl,by kernel_rfl,by kernel_rfl⟩,by kernel_rfl,by kernel_rfl,by kernel_rfl,by kernel_rfl,by kernel_rfl⟩
 have GG:Glb (KK w.params) w mg:=⟨⟨71,gv X G,by kernel_rfl,by decide +kernel,[("go",266,72),("test",268,73),("tell",271,74),("take",273,75),("hold",275,76),("leave",279,77)],6,by kernel_rfl,.cons ⟨rfl,⟨_,_,_,lo 72 (oT #[xs "edge" 267]),rfl,rfl,ZhM rfl,.cons ⟨_,rfl⟩ (.nil)⟩,_,lo 72 (oT #[xs "edge" 267]),rfl,rfl⟩ (.cons ⟨rfl,⟨_,_,_,lo 73 (oT #[xs "edge" 269,xs "edge" 270]),rfl,rfl,ZhM rfl,.cons ⟨_,rfl⟩ (.cons ⟨_,rfl⟩ (.nil))⟩,_,lo 73 (oT #[xs "edge" 269,xs "edge" 270]),rfl,rfl⟩ (.cons ⟨rfl,⟨_,_,_,lo 74 (oT #[xs "edge" 272]),rfl,rfl,ZhM rfl,.cons ⟨_,rfl⟩ (.nil)⟩,_,lo 74 (oT #[xs "edge" 272]),rfl,rfl⟩ (.cons ⟨rfl,⟨_,_,_,lo 75 (oT #[xs "edge" 274]),rfl,rfl,ZhM rfl,.cons ⟨_,rfl⟩ (.nil)⟩,_,lo 75 (oT #[xs "edge" 274]),rfl,rfl⟩ (.cons ⟨rfl,⟨_,_,_,lo 76 (oT #[xs "number" 276,xs "number" 277,xs "edge" 278]),rfl,rfl,ZhM rfl,.cons ⟨_,rfl⟩ (.cons ⟨_,rfl⟩ (.cons ⟨_,rfl⟩ (.nil)))⟩,_,lo 76 (oT #[xs "number" 276,xs "number" 277,xs "edge" 278]),rfl,rfl⟩ (.cons ⟨rfl,⟨_,_,_,lo 77 (oT #[]),rfl,rfl,ZhM rfl,.nil⟩,_,lo 77 (oT #[]),rfl,rfl⟩ (.nil))))))⟩,⟨289,gv X G⟩,⟨299,gv X G⟩⟩
 exact ⟨_,fun s v=>.of_eq rfl,fun base _ _=>Zkp (B:=⟨gz X G,gz X G,gz X G,gz X G,gz X G,gz X G,gz X G,gz X G,gz X G,gz X G,gz X G⟩) (HX:=HX) (G:=GG) (T_read_whole:=(tf2 X G 82 "midlanes.texts" 287 81)) (T_read_lane:=(tf1 X G 87 "midlanes.books" 297 86)) (T_read_stand:=(tf1 X G 92 "midlanes.books" 297 91)) (T_read_frame:=(tf1 X G 99 "midlanes.books" 297 98)) (T_read_deed:=(tf2 X G 104 "midlanes.books" 297 103)) (T_read_edge:=(tf1 X G 111 "midlanes.books" 297 110)) (T_read_forms:=(tf1 X G 116 "midlanes.books" 297 115)) (T_read_form:=(tf1 X G 121 "midlanes.books" 297 120)) (T_read_pair:=(tf1 X G 128 "midlanes.books" 297 127)) (T_read_numbers:=(tf2 X G 133 "midlanes.books" 297 132)) (T_read_number:=(tf1 X G 140 "midlanes.books" 297 139)) (T__law_bag:=(tf1 X G 145 "law_midlanes_k72_lane_texts_that_are_none" 368 144)) (T__law_draw:=(tf2 X G 152 "law_midlanes_k72_lane_texts_that_are_none" 368 151)) (T__law_number:=(tf1 X G 159 "law_midlanes_k72_lane_texts_that_are_none" 368 158)) (T__law_wild_forms:=(tf1 X G 164 "law_midlanes_k72_lane_texts_that_are_none" 368 163)) (T__law_wild_edge:=(tf1 X G 171 "law_midlanes_k72_lane_texts_that_are_none" 368 170)) (T__law_wild_lane:=(tf1 X G 178 "law_midlanes_k72_lane_texts_that_are_none" 368 177)) (T__law_form_written:=(tf1 X G 183 "law_midlanes_k72_lane_texts_that_are_none" 368 182)) (T__law_lane_written:=(tf1 X G 188 "law_midlanes_k72_lane_texts_that_are_none" 368 187)) (T__law_any_sign:=(tf1 X G 195 "law_midlanes_k72_lane_texts_that_are_none" 368 194)) (T__law_run:=(tf1 X G 200 "law_midlanes_k72_lane_texts_that_are_none" 368 199)) (T__law_bent_text:=(tf3 X G 205 "law_midlanes_k72_lane_texts_that_are_none" 368 204)) (T__law_bent_lines:=(tf2 X G 212 "law_midlanes_k72_lane_texts_that_are_none" 368 211)) (T__law_each_line:=(tf3 X G 219 "law_midlanes_k72_lane_texts_that_are_none" 368 218)) (T__law_spoilt:=(tf3 X G 226 "law_midlanes_k72_lane_texts_that_are_none" 368 225)) (T__law_value:=(tf2 X G 231 "law_midlanes_k72_lane_texts_that_are_none" 368 230)) (T__law_form_of:=(tf1 X G 238 "law_midlanes_k72_lane_texts_that_are_none" 368 237)) (T__law_line_of:=(tf1 X G 243 "law_midlanes_k72_lane_texts_that_are_none" 368 242)) (T__law_lane_of:=(tf1 X G 250 "law_midlanes_k72_lane_texts_that_are_none" 368 249)) (T__law_read:=(tf1 X G 257 "law_midlanes_k72_lane_texts_that_are_none" 368 256)) (T__law_alike:=(tf2 X G 262 "law_midlanes_k72_lane_texts_that_are_none" 368 261)) (T_law:=ZfC (lo 269 (oG "law" Zlm "law_midlanes_k72_lane_texts_that_are_none" 368 268)) (by kernel_rfl) (by kernel_rfl))⟩
end
end My
open PySem PySem.W PyProof.Rows
set_option maxRecDepth 100000 in
set_option maxHeartbeats 0 in
theorem PySem.Challenge.cw_midlanes_k72_lane_texts_that_are_none_holds : PySem.Challenge.rw_midlanes_k72_lane_texts_that_are_none.Holds := by
 refine holds_law My.SD fun said=>?_
 refine holds_open (XP:=XL My.QQ []) (YP:=My.HH.says) My.LL My.HH.of My.HH.keeps (fun s e=>xl_of s (Bool.and_eq_true_iff.mp e).1) XL.keeps (by rfl) (by rfl) (by rfl) (fun s e=>recFacts_of (Bool.and_eq_true_iff.mp e).2) (by rfl) said (by decide +kernel) ⟨rfl,rfl,rfl,rfl,rfl,by decide +kernel⟩ ?hw ?hc
 case hw=>w_witness2
 exact L2.Zjc (l:=PySem.Challenge.rw_midlanes_k72_lane_texts_that_are_none) (n:=63) (k:=16) (x:="script") (CX:=fun _=>L2.CX0) (sp:=fun w=>L2.Zjs _) rfl (by decide) rfl ⟨rfl,by decide,by decide⟩ (fun w h Y=>PySem.W.kIn_of Y) (fun w mg fa h KX G hmg=>My.Zn0 w KX G hmg) (fun _ _ a ns hl _ hS=>L2.Zll hl hS) (fun _ _ _ _ _ z=>z)
