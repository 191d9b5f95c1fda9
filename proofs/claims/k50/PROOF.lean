import PyProof.Rows.All
import Wide.All
import OpenK.AllK
import Wide.FinOn
import Lean
import PyProof.EqAt
import PyProof.EqKinds
import PyProof.TupleCall
import PyProof.NeKinds
import KE.KDictSum
import PyProof.Rows.SortRuns
import PySem.SetOps
import PyProof.Rows.SetFrom
import PyProof.DictWalks
import PyProof.FactsAll.set_1
import PyProof.FactsAll.set_2
import PyProof.MakeMany
import PyProof.CollectWalk
import PyProof.Rows.SortShell
import PyProof.StrWalks
import PyProof.StrLoop
import PyProof.ZipIter
import PyProof.EnumMake
import PyProof.EnumStmt
import PyProof.EnumFor
import PyProof.MeetsDict
import PyProof.DictRoadsH
import KE.KUnpack
import PyProof.SliceStr2
import PyProof.StrBlockI
import PyProof.Rows.StrWeight2
import PyProof.StrOps2
import PyProof.ConsumeWalk
import KE.KIntText
import PyProof.StrBlockG
import PyProof.StrLawsTight
import PyProof.StrLawsChain
import KE.IntTextLaws
import PyProof.Rows.CatFin
import OpenK.KOwn
import KE.KTryMore
import KE.KIsNot
import PyProof.Rows.TopTwo
import PyProof.NsDelKeeps
import PyProof.RulesAs
import PyProof.Rows.Catch
import PyProof.ExcAttrAll.ValueError
import PySem.Challenge.RW_midlanes_k50_whole_deepest_leave
set_option Elab.async false
set_option linter.all false
set_option maxRecDepth 100000
set_option maxHeartbeats 4000000
open List (all_cons all_eq_true any_cons any_eq_false any_nil append_assoc append_inj' append_nil cons_append dropLast_concat drop_drop drop_eq_nil_iff eq_nil_of_length_eq_zero eq_nil_or_concat eq_of_mem_replicate eraseIdxIfInBounds_toArray eraseIdx_cons_succ ext_getElem ext_getElem? filterMap_cons filterMap_map find?_cons findIdx?_append findIdx?_cons findIdx?_eq_some_iff_getElem flatMap_append flatMap_cons flatMap_nil flatten_cons foldl_cons forIn_cons getD_eq_getElem?_getD getElem?_append_left getElem?_append_right getElem?_concat_length getElem?_drop getElem?_eq_getElem getElem?_eq_none getElem?_map getElem?_replicate getElem?_set_ne getElem?_set_self getElem?_take_of_lt getElem_inj getElem_map getElem_mem getElem_range getLast?_append getLast?_concat getLast?_singleton length_append length_cons length_drop length_dropLast length_map length_nil length_pos_iff length_replicate length_set length_singleton length_tail length_take lookup_cons map_append map_cons map_drop map_flatMap map_flatten map_map map_nil map_replicate map_set map_take mem_append mem_append_left mem_append_right mem_cons mem_cons_of_mem mem_cons_self mem_filter mem_filterMap mem_flatMap mem_iff_getElem? mem_map mem_map_of_mem mem_of_getElem? mem_of_mem_tail mem_or_eq_of_mem_set mem_range mem_singleton nil_append nodup_append nodup_cons nodup_nil not_mem_nil of_mem_zip perm_append_comm perm_middle range_succ replicate_succ set_cons_succ set_cons_zero size_toArray sublist_append_left take_add_one take_length take_of_length_le take_sublist)
noncomputable section
section
namespace L2
open PySem PySem.Spec PyProof.Rows
abbrev Key:=Sum Int Str
def ZiG:Key->Value->Bool
 | .inl k,v=>Value.isInt k v
 | .inr x,v=>Value.isStrOf x v
def keyH (w:World):Key->Int
 | .inl k=>hashInt k
 | .inr x=>hashStr w x
theorem Zbu : ∀ {k : Key} {v : Value}, ZiG k v = true -> (∃ i t, k = Sum.inl i /\ v = Value.int i t) \/ (∃ x t, k = Sum.inr x /\ v = Value.str x t)
  | .inl i, v, h => by
    obtain ⟨t,e⟩:=Value.isInt_shape (k:=i) (v:=v) h
    exact .inl ⟨i,t,rfl,e⟩
  | .inr x, v, h => by
    obtain ⟨t,e⟩:=Value.isStrOf_shape (x:=x) (v:=v) h
    exact .inr ⟨x, t, rfl, e⟩
theorem ZjI (i:Int) (t:Tok):ZiG (.inl i) (.int i t)=true:=by simp[ZiG,Value.isInt]
theorem ZjH (x:Str) (t:Tok):ZiG (.inr x) (.str x t)=true:=by simp[ZiG,Value.isStrOf]
theorem key_ll (a b:Int):decide ((Sum.inl a:Key)=Sum.inl b)=(a == b):=by
 by_cases e:a=b
 ·subst e;simp
 ·have h:¬ (Sum.inl a:Key)=Sum.inl b:=fun q=>e (Sum.inl.inj q)
  rw[decide_eq_false h]
  exact (beq_eq_false_iff_ne.mpr e).symm
theorem key_rr (a b:Str):decide ((Sum.inr a:Key)=Sum.inr b)=decide (a=b):=by
 by_cases e:a=b
 ·subst e;simp
 ·have h:¬ (Sum.inr a:Key)=Sum.inr b:=fun q=>e (Sum.inr.inj q)
  rw[decide_eq_false h,decide_eq_false e]
theorem key_lr (a:Int) (b:Str):decide ((Sum.inl a:Key)=Sum.inr b)=false:=decide_eq_false (fun q=>nomatch q)
theorem key_rl (a:Str) (b:Int):decide ((Sum.inr a:Key)=Sum.inl b)=false:=decide_eq_false (fun q=>nomatch q)
def Zbt (prog:Program) (w:World):PySem.KeyKind prog w Key where
 is:=ZiG
 hash:=keyH w
 inj:=fun v a b ha hb=>by
  rcases Zbu ha with ⟨i,t,rfl,rfl⟩|⟨x,t,rfl,rfl⟩
  ·rcases Zbu hb with ⟨j,u,rfl,e⟩|⟨y,u,rfl,e⟩
   ·injection e with e1 _;rw[e1]
   ·exact nomatch e
  ·rcases Zbu hb with ⟨j,u,rfl,e⟩|⟨y,u,rfl,e⟩
   ·exact nomatch e
   ·injection e with e1 _;rw[e1]
 byValue:=fun k v h=>by
  rcases Zbu h with ⟨i,t,rfl,rfl⟩|⟨x,t,rfl,rfl⟩ <;> rfl
 pyHash:=fun hv h=>by
  rcases Zbu hv with ⟨i,t,rfl,rfl⟩|⟨x,t,rfl,rfl⟩
  ·exact wpAny_pyHash_int h
  ·exact wpAny_pyHash_str h
 eqBool:=fun hu hv h=>by
  rcases Zbu hu with ⟨i,t,rfl,rfl⟩|⟨x,t,rfl,rfl⟩
  ·rcases Zbu hv with ⟨j,u,rfl,rfl⟩|⟨y,u,rfl,rfl⟩
   ·rw[key_ll] at h;exact wpAny_eqBool_int h
   ·rw[key_lr] at h;exact SeqAt.EqAt.int_str i t y u _ _ _ _ h
  ·rcases Zbu hv with ⟨j,u,rfl,rfl⟩|⟨y,u,rfl,rfl⟩
   ·rw[key_rl] at h;exact SeqAt.EqAt.str_int x t j u _ _ _ _ h
   ·rw[key_rr] at h;exact wpAny_eqBool_str h
 «strs»:=fun k x t v h=>by
  rcases Zbu h with ⟨i,u,rfl,e⟩|⟨y,u,rfl,e⟩
  ·exact nomatch e
  ·injection e with e1 _
   subst e1
   cases v <;> rfl
theorem ZhB (prog:Program) (w:World) (i:Int) (t:Tok):(Zbt prog w).is (.inl i) (.int i t)=true:=ZjI i t
theorem ZdR (prog:Program) (w:World) (x:Str) (t:Tok):(Zbt prog w).is (.inr x) (.str x t)=true:=ZjH x t
end L2
namespace L2
open PySem PySem.Spec PyProof.Rows
inductive V where
 | non|bl (b:Bool)|int (i:Int)|str (x:Str)|byt (b:Array UInt8)|flt (b:UInt64)|ref (a:Addr)|ty (n:String)
 deriving DecidableEq
def RelV:V->Value->Prop
 | .non,u=>u=Value.none
 | .bl b,u=>u=Value.bool b
 | .int i,u=>∃ t,u=Value.int i t
 | .str x,u=>∃ t,u=Value.str x t
 | .byt b,u=>∃ t,u=Value.bytes b t
 | .flt b,u=>∃ t,u=Value.float b t
 | .ref a,u=>u=Value.ref a
 | .ty n,u=>u=Value.type n
abbrev Vals:List V->List Value->Prop:=Paired RelV
theorem Vals.length {xs:List V} {us:List Value} (r:Vals xs us):xs.length=us.length:=Paired.length r
theorem Vals.get : ∀ {xs : List V} {us : List Value} {i : Nat} {x : V}, Vals xs us -> xs[i]? = some x -> ∃ u, us[i]? = some u /\ RelV x u
  | _, _, _, _, .nil, e => by simp at e
  | _, _, 0, _, .cons r _, e => by simp at e; subst e; exact ⟨_, rfl, r⟩
  | _, _, i + 1, x, .cons _ t, e => by
    obtain ⟨u,h1,h2⟩:=Vals.get (i:=i) (x:=x) t (by simpa using e)
    exact ⟨u, by simpa using h1, h2⟩
theorem Vals.set {x:V} {u:Value} (r:RelV x u):∀ {xs:List V} {us:List Value} (i:Nat),Vals xs us->Vals (xs.set i x) (us.set i u)
 | _,_,_,.nil=>.nil
 | _,_,0,.cons _ t=>.cons r t
 | _,_,i+1,.cons q t=>.cons q (Vals.set r i t)
theorem Vals.append {xs ys:List V} {us ws:List Value} (h:Vals xs us) (s:Vals ys ws):Vals (xs++ys) (us++ws):=by
 induction h with
 | nil=>exact s
 | cons r _ ih=>exact .cons r ih
theorem Vals.take:∀ {xs:List V} {us:List Value} (n:Nat),Vals xs us->Vals (xs.take n) (us.take n)
 | _,_,0,_=>.nil
 | _,_,_+1,.nil=>.nil
 | _,_,n+1,.cons r t=>.cons r (Vals.take n t)
theorem Vals.drop:∀ {xs:List V} {us:List Value} (n:Nat),Vals xs us->Vals (xs.drop n) (us.drop n)
 | _,_,0,r=>r
 | _,_,_+1,.nil=>.nil
 | _,_,n+1,.cons _ t=>Vals.drop n t
def RelO:Option V->Option Value->Prop
 | some v,some u=>RelV v u
 | none,none=>True
 | _,_=>False
def KV {κ:Type}:List (κ×V)->List (κ×Value)->Prop:=Paired fun (p:κ×V) (q:κ×Value)=>p.1=q.1/\RelV p.2 q.2
def kV:Key->V
 | .inl i=>.int i
 | .inr x=>.str x
inductive HO where
 | lst (xs:List V)
 | tup (xs:List V)
 | dK (kvs:List (Key×V))|dT (kvs:List (List Key×V))
 | set (S:Int->Bool) (n:Nat)
 | ins (C dx:Addr) (fs:List (Str×V))
 | own (x:Addr)
 | xd (fs:List (Str×V))
 | met (f x:Addr)
 | rng (lo hi:Int)
 | frz (o:Obj) (u:HO)
 | tbl (ps:Array Value)
 | ext (φ:Heap->Prop)
abbrev Hp:=Addr->Option HO
def upd (H:Hp) (a:Addr) (o:HO):Hp:=fun b=>if b=a then some o else H b
theorem Zag {H:Hp} {a:Addr} {o:HO}:upd H a o a=some o:=by unfold upd;rw[if_pos rfl]
theorem Zax {H:Hp} {a b:Addr} {o:HO} (h:b≠a):upd H a o b=H b:=by unfold upd;rw[if_neg h]
theorem ZlM {H:Hp} {a:Addr} {o u:HO}:upd (upd H a o) a u=upd H a u:=by
 funext b;unfold upd;split <;> rfl
theorem Zmo {H:Hp} {a b:Addr} {o u:HO} (h:H a=some o) (h':H b=some u) (d:o≠u):a≠b:=by
 intro e;subst e;rw[h] at h';exact d (Option.some.inj h')
theorem ZbV {H:Hp} {a b:Addr} {o:HO} (h:H a=some o) (h':H b=none):a≠b:=by
 intro e;subst e;rw[h] at h';cases h'
section
variable (P:Program) (w:World)
def ObjOk (H:Hp) (h:Heap) (a:Addr):HO->Prop
 | .lst xs=>xs.length<=sizeLine/\∃ (its:List Value) (n:Nat),Vals xs its/\h.get? a=some { cls:=.type "list",data:=.seq its.toArray n }
 | .tup xs=>xs.length<=sizeLine/\∃ its:List Value,Vals xs its/\IsTup h a its.toArray
 | .dK kvs=>kvs.length<=sizeLine/\(a == sysModules)=false/\∃ vs,KV kvs vs/\h.DictOf (Zbt P w) a vs
 | .dT kvs=>kvs.length<=sizeLine/\(a == sysModules)=false/\∃ xs:List (List Key×Addr×Value),
   Paired (fun (p:List Key×V) (q:List Key×Addr×Value)=>p.1=q.1/\H q.2.1=some (.tup (p.1.map kV))/\RelV p.2 q.2.2) kvs xs /\
   ∃ o es ep,h.get? a=some o/\o.ExactDict/\o.data=.dict es ep/\es.toList=xs.map (entryOfKey (tupleKind (Zbt P w)))/\(xs.map (·.1)).Nodup
 | .set S n=>h.SetOf (intKind P w) a S n
 | .ins C dx fs=>H dx=some (.own a)/\fs.length<=1000/\dx≠a/\h.get? a=some (PySem.W.instObj C dx) /\
   ∃ mA,h.Ns1 dx mA/\(∀ f,RelO (fs.lookup f) (mA f))/\PySem.Within mA (fs.map (·.1))
 | .own _=>∃ o,h.get? a=some o
 | .xd fs=>∃ mA,h.Ns1 a mA/\∀ f,RelO (fs.lookup f) (mA f)
 | .rng lo hi=>∃ t u v,h.get? a=some { cls:=.type "range",data:=.fields #[.int lo t,.int hi u,.int 1 v] }
 | .frz o u=>h.get? a=some o/\ObjOk H h a u
 | .tbl ps=>h.get? a=some { cls:=.none,data:=.fields ps }
 | .met f x=>h.get? a=some (PySem.W.methodObj (.ref f) (.ref x))
 | .ext φ=>φ h/\(∃ o,h.get? a=some o)/\∀ h1 h2:Heap,φ h1->(∀ o,h1.get? a=some o->h2.get? a=some o)->φ h2
def HOk (H:Hp) (h:Heap):Prop:=∀ a o,H a=some o->ObjOk P w H h a o
end
section
variable {P:Program} {w:World} {H H':Hp} {h h':Heap} {a:Addr} {o:HO}
theorem ObjOk.lt (x:ObjOk P w H h a o):a < h.objs.size:=by
 cases o with
 | lst xs=>obtain ⟨_,_,_,_,e⟩:=x;exact Heap.lt_size e
 | tup xs=>obtain ⟨_,_,_,p⟩:=x;exact p.lt
 | dK kvs=>obtain ⟨_,_,_,_,o,_,_,e,_⟩:=x;exact Heap.lt_size e
 | dT kvs=>obtain ⟨_,_,_,_,o,_,_,e,_⟩:=x;exact Heap.lt_size e
 | set S n=>obtain ⟨o,_,_,_,e,_⟩:=x;exact Heap.lt_size e
 | ins C dx fs=>obtain ⟨_,_,_,e,_⟩:=x;exact Heap.lt_size e
 | own y=>obtain ⟨_,e⟩:=x;exact Heap.lt_size e
 | xd fs=>obtain ⟨_,⟨_,_,_,e,_⟩,_⟩:=x;exact Heap.lt_size e
 | rng lo hi=>obtain ⟨_,_,_,e⟩:=x;exact Heap.lt_size e
 | frz ob u=>obtain ⟨e,_⟩:=x;exact Heap.lt_size e
 | tbl ps=>exact Heap.lt_size (show h.get? a=some _ from x)
 | met f y=>exact Heap.lt_size (show h.get? a=some _ from x)
 | ext φ=>obtain ⟨_,⟨_,e⟩,_⟩:=x;exact Heap.lt_size e
theorem Paired.mapP {α β:Type} {F G:α->β->Prop} {l₁:List α} {l₂:List β} (h:Paired F l₁ l₂) (f:∀ a b,F a b->G a b):Paired G l₁ l₂:=by
 induction h with
 | nil=>exact .nil
 | cons r _ ih=>exact .cons (f _ _ r) ih
theorem ObjOk.stay (x:ObjOk P w H h a o) (k:∀ b u,(b=a\/H b=some (.own a))->h.get? b=some u->h'.get? b=some u)
  (ho:∀ b,H b=some (.own a)->H' b=some (.own a)) (ht:∀ b xs,H b=some (.tup xs)->H' b=some (.tup xs)):ObjOk P w H' h' a o:=by
 induction o with
 | lst xs=>obtain ⟨z,its,n,r,e⟩:=x;exact ⟨z,its,n,r,k _ _ (.inl rfl) e⟩
 | tup xs=>obtain ⟨z,its,r,ob,e,c⟩:=x;exact ⟨z,its,r,ob,k _ _ (.inl rfl) e,c⟩
 | dK kvs=>obtain ⟨z,y,vs,r,ob,es,ep,e,c⟩:=x;exact ⟨z,y,vs,r,ob,es,ep,k _ _ (.inl rfl) e,c⟩
 | dT kvs =>
  obtain ⟨z,y,xs,r,ob,es,ep,e,c⟩:=x
  exact ⟨z,y,xs,Paired.mapP r fun p q z=>⟨z.1,ht _ _ z.2.1,z.2.2⟩,ob,es,ep,k _ _ (.inl rfl) e,c⟩
 | set S n=>obtain ⟨ob,es,ep,t,e,c⟩:=x;exact ⟨ob,es,ep,t,k _ _ (.inl rfl) e,c⟩
 | ins C dx fs =>
  obtain ⟨d,z,ne,e,mA,⟨od,es,ep,e2,c⟩,r⟩:=x
  exact ⟨ho _ d,z,ne,k _ _ (.inl rfl) e,mA,⟨od,es,ep,k _ _ (.inr d) e2,c⟩,r⟩
 | own y=>obtain ⟨ob,e⟩:=x;exact ⟨ob,k _ _ (.inl rfl) e⟩
 | xd fs=>obtain ⟨mA,⟨od,es,ep,e,c⟩,r⟩:=x;exact ⟨mA,⟨od,es,ep,k _ _ (.inl rfl) e,c⟩,r⟩
 | rng lo hi=>obtain ⟨t,u,v,e⟩:=x;exact ⟨t,u,v,k _ _ (.inl rfl) e⟩
 | frz ob u ih=>obtain ⟨e,q⟩:=x;exact ⟨k _ _ (.inl rfl) e,ih q⟩
 | tbl ps =>
  have e:h.get? a=some { cls:=.none,data:=.fields ps }:=x
  show h'.get? a=some { cls:=.none,data:=.fields ps }
  exact k a _ (.inl rfl) e
 | met f y =>
  have e:h.get? a=some (PySem.W.methodObj (.ref f) (.ref y)):=x
  show h'.get? a=some (PySem.W.methodObj (.ref f) (.ref y))
  exact k a _ (.inl rfl) e
 | ext φ=>obtain ⟨p,⟨o,e⟩,st⟩:=x;exact ⟨st _ _ p fun o q=>k _ _ (.inl rfl) q,⟨o,k _ _ (.inl rfl) e⟩,st⟩
theorem HOk.lt (x:HOk P w H h) (e:H a=some o):a < h.objs.size:=(x a o e).lt
theorem HOk.fresh (x:HOk P w H h) (e:h.objs.size<=a):H a=none:=by
 cases q:H a with
 | none=>rfl
 | some u=>exact absurd (Nat.lt_of_lt_of_le (x.lt q) e) (Nat.lt_irrefl _)
theorem HOk.kept (x:HOk P w H h) (k:∀ b u,h.get? b=some u->h'.get? b=some u):HOk P w H h':=fun a o e =>
 (x a o e).stay (fun b u _ q=>k b u q) (fun _ q=>q) fun _ _ q=>q
theorem HOk.laid (x:HOk P w H h) (k:∀ b u,h.get? b=some u->h'.get? b=some u) (hp:h.objs.size<=a) (new:ObjOk P w (upd H a o) h' a o):HOk P w (upd H a o) h':=fun b u e=>by
 have hn:=x.fresh hp
 by_cases hb:b=a
 ·subst hb;rw[Zag] at e;cases e;exact new
 ·rw[Zax hb] at e
  exact (x b u e).stay (fun c v _ q=>k c v q) (fun c q=>by rw[Zax (ZbV q hn)];exact q) fun c xs q=>by rw[Zax (ZbV q hn)];exact q
end
def Rd (H:Hp) (a:Addr) (u:HO):Prop:=H a=some u\/∃ o,H a=some (.frz o u)
theorem Rd.ok {P:Program} {w:World} {H:Hp} {h:Heap} {a:Addr} {u:HO} (r:Rd H a u) (x:HOk P w H h):ObjOk P w H h a u:=by
 rcases r with r|⟨o,r⟩
 ·exact x a u r
 ·obtain ⟨_,q⟩:=x a _ r
  exact q
def Mut:Option HO->Prop
 | some (.lst _)=>True
 | some (.dK _)=>True
 | some (.dT _)=>True
 | some (.set _ _)=>True
 | some (.ins _ _ _)=>True
 | some (.ext _)=>True
 | _=>False
section
variable {P:Program} {w:World} {H:Hp} {h h':Heap} {x e:Addr} {o':HO}
theorem HOk.write (ok:HOk P w H h) (mu:Mut (H x)) (he:e=x\/H e=some (.own x)) (k:∀ b u,b≠e->h.get? b=some u->h'.get? b=some u) (heo:∃ u,h'.get? e=some u)
  (new:ObjOk P w (upd H x o') h' x o'):HOk P w (upd H x o') h':=fun b u q=>by
 have nown:∀ c y,H c=some (.own y)->c≠x:=fun c y r z=>by subst z;rw[r] at mu;exact mu
 have ntup:∀ c xs,H c=some (.tup xs)->c≠x:=fun c xs r z=>by subst z;rw[r] at mu;exact mu
 by_cases hb:b=x
 ·subst hb;rw[Zag] at q;cases q;exact new
 ·rw[Zax hb] at q
  by_cases hbe:b=e
  ·have q':H b=some (.own x):=by
    rcases he with z|z
    ·exact absurd (hbe.trans z) hb
    ·rw[hbe];exact z
   rw[q] at q';cases q'
   obtain ⟨v,hv⟩:=heo
   exact ⟨v,by rw[hbe];exact hv⟩
  ·refine (ok b u q).stay (fun c v hc r=>k c v ?_ r) (fun c r=>by rw[Zax (nown c b r)];exact r) fun c xs r=>by rw[Zax (ntup c xs r)];exact r
   rcases hc with rfl|hc
   ·exact hbe
   ·rintro rfl
    rcases he with z|z
    ·exact nown c b hc z
    ·rw[hc] at z;cases z;exact hb rfl
end
structure Un (fs ex:List Addr) (H H':Hp) (h h':Heap):Prop where
 keep:∀ b o,h.get? b=some o->H b=none->b∉fs->b∉ex->h'.get? b=some o
 slot:∀ b o,h.get? b=some o->H b=none->b∈fs->b∉ex->∃ sl,h'.get? b=some { o with slots:=sl }
 free:∀ b o,h.get? b=some o->H b=none->b∉ex->H' b=none
 there:∀ b o,h.get? b=some o->b∉ex->∃ o',h'.get? b=some o'
 tups:∀ b xs,H b=some (.tup xs)->H' b=some (.tup xs)
 frzs:∀ b o u,H b=some (.frz o u)->H' b=some (.frz o u)
 tbls:∀ b ps,H b=some (.tbl ps)->∃ more,H' b=some (.tbl (ps++more))
section
variable {fs fs' ex ex':List Addr} {H H1 H2:Hp} {h h1 h2 h':Heap} {a x e:Addr} {o:HO}
theorem Un.any (u:Un fs ex H H1 h h1) {b:Addr} {ob:Obj} (q:h.get? b=some ob) (n:H b=none) (hx:b∉ex):∃ sl,h1.get? b=some { ob with slots:=sl }:=by
 by_cases hb:b∈fs
 ·exact u.slot b ob q n hb hx
 ·exact ⟨ob.slots,u.keep b ob q n hb hx⟩
theorem Un.kept (k:∀ b u,h.get? b=some u->h'.get? b=some u):Un fs ex H H h h' :=
 ⟨fun b ob q _ _ _=>k b ob q,fun b ob q _ _ _=>⟨ob.slots,k b ob q⟩,fun _ _ _ n _=>n,fun b ob q _=>⟨ob,k b ob q⟩,fun _ _ q=>q,fun _ _ _ q=>q,fun _ ps q=>⟨#[],by rw[q];simp⟩⟩
theorem Un.refl:Un fs ex H H h h:=Un.kept fun _ _ q=>q
theorem Un.laid (k:∀ b u,h.get? b=some u->h'.get? b=some u) (hp:h.objs.size<=a) (hn:H a=none):Un fs ex H (upd H a o) h h' where
 keep:=fun b u q _ _ _=>k b u q
 slot:=fun b u q _ _ _=>⟨u.slots,k b u q⟩
 free:=fun b u q n _=>by rw[Zax (Nat.ne_of_lt (Nat.lt_of_lt_of_le (Heap.lt_size q) hp))];exact n
 there:=fun b u q _=>⟨u,k b u q⟩
 tups:=fun b xs q=>by rw[Zax (ZbV q hn)];exact q
 frzs:=fun b u xs q=>by rw[Zax (ZbV q hn)];exact q
 tbls:=fun b ps q=>⟨#[],by rw[Zax (ZbV q hn),q];simp⟩
theorem Un.write (mu:Mut (H x)) (he:e=x\/H e=some (.own x)) (k:∀ b u,b≠e->h.get? b=some u->h'.get? b=some u) (heo:∃ u,h'.get? e=some u):Un fs ex H (upd H x o) h h':=by
 have hx:∀ b,H b=none->b≠x:=fun b n z=>by subst z;rw[n] at mu;exact mu
 have hb:∀ b,H b=none->b≠e:=fun b n z=>by
  subst z
  rcases he with r|r
  ·exact hx b n r
  ·rw[n] at r;cases r
 have hm:∀ b u,H b=some u->¬ Mut (some u)->b≠x:=fun b u q nm z=>by subst z;rw[q] at mu;exact nm mu
 refine ⟨fun b u q n _ _=>k b u (hb b n) q,fun b u q n _ _=>⟨u.slots,k b u (hb b n) q⟩,fun b u q n _=>by rw[Zax (hx b n)];exact n,fun b u q _=>?_,
  fun b xs q=>by rw[Zax (hm b _ q fun z=>z)];exact q,fun b u xs q=>by rw[Zax (hm b _ q fun z=>z)];exact q,fun b ps q=>⟨#[],by rw[Zax (hm b _ q fun z=>z),q];simp⟩⟩
 by_cases hbe:b=e
 ·subst hbe;exact heo
 ·exact ⟨u,k b u hbe q⟩
end
def trk (h:Heap) (H:Hp):List Addr:=(List.range h.objs.size).filter fun a=>(H a).isSome
def hidT (h:Heap) (H:Hp):Heap:=PySem.W.hideAll h (trk h H)
theorem ZjS (h:Heap) (H:Hp):(hidT h H).objs.size=h.objs.size:=PySem.W.hideAll_size _ _
theorem ZkT {h:Heap} {H:Hp} {b:Addr} {o:Obj} (e:h.get? b=some o) (n:H b=none):(hidT h H).get? b=some o :=
 PySem.W.hideAll_get _ e fun hm=>by
  have q:(H b).isSome=true:=(mem_filter.mp hm).2
  rw[n] at q;simp at q
theorem Zmn {h:Heap} {H:Hp} {b:Addr} {o:Obj} (e:(hidT h H).get? b=some o):h.get? b=some o/\H b=none:=by
 have e':h.get? b=some o:=PySem.W.of_hideAll (trk h H) e
 refine ⟨e',?_⟩
 cases q:H b with
 | none=>rfl
 | some x =>
  have hm:b∈trk h H:=mem_filter.mpr ⟨mem_range.mpr (Heap.lt_size e'),by simp[q]⟩
  have z:(hidT h H).get? b=none:=PySem.W.hideAll_none (trk h H) hm
  rw[z] at e;cases e
def ZmQ (g h:Heap) (L:Addr):List (Addr×Obj):=(List.range h.objs.size).filterMap fun a=>if a=L\/(g.get? a).isSome=true then none else (h.get? a).map fun o=>(a,o)
def rest (g h:Heap) (L d:Addr):List (Addr×Obj):=(ZmQ g h L).filter fun p=>decide (p.1≠d)
end L2
namespace L2
open PySem PySem.Spec PyProof.Rows
structure Mod (K:W.Frag) (mg:Str->Option Value) (base:Heap):Prop where
 kin:K.In base
 glob:base.Ns mainGlobals mg
 blt:∃ mb,base.Ns builtinsNs mb/\∀ x:Str,x≠"__name__"->mb x=bootBuiltins x
 nolimit:base.NoLimit
structure Cx where
 prog:Program
 w:World
 K:W.Frag
 mg:Str->Option Value
 base:Heap
 A:Around
 N:List Str
 s₀:Shared
 H₀:Hp
 env:Env
 outer:List Env
 stack:List Env
 ex:List Addr
 fn:Str->Bool
 calm:Bool
 pn:List (Addr×Obj)
 xe:Value->Shared->Prop
def frs (l:List Env):List Addr:=l.filterMap (·.frame)
abbrev Cx.fs (X:Cx):List Addr:=frs X.outer
def Vis (sc:Scope) (x:Str):Prop:=sc.names.lookup x=some .local\/sc.names.lookup x=some .cell\/sc.names.lookup x=some .free
def Loc (sc:Scope) (x:Str):Prop:=sc.names.lookup x=some .local\/sc.names.lookup x=some .cell
def Look (env:Env) (h:Heap) (m:Str->Option Value) (x:Str) (u:Value):Prop :=
 (env.kindOf x=some .local/\m x=some u)\/((env.kindOf x=some .cell\/env.kindOf x=some .free)/\∃ c,env.cells.lookup x=some c/\h.IsCell c (some u))
structure Cx.Ok (X:Cx):Prop where
 mod:Mod X.K X.mg X.base
 kind:X.env.scope.kind=.function
 glob:X.env.globals=mainGlobals
 blt:X.env.builtins=builtinsNs
 above:X.s₀.heap.objs.size<=X.env.locals
 inj:∀ x y c,X.env.cells.lookup x=some c->X.env.cells.lookup y=some c->x=y
 has:∀ x,(X.env.kindOf x=some .cell\/X.env.kindOf x=some .free)->∃ c,X.env.cells.lookup x=some c
 cab:∀ x c,X.fn x=true->X.env.cells.lookup x=some c->X.s₀.heap.objs.size<=c
 hd:X.calm=true->X.A.handled=none
 frames:X.A.frames=some X.stack
 stk:X.stack=X.outer\/(X.stack=X.env::X.outer/\X.env.frame=some X.env.locals)
 exf:∀ b∈X.ex,b≠X.env.locals/\∀ x c,X.env.cells.lookup x=some c->c≠b
 bs:∀ b o,X.base.get? b=some o->X.s₀.heap.get? b=some o/\X.H₀ b=none
 bsz:X.base.objs.size<=X.s₀.heap.objs.size
 noex:∀ b o,X.base.get? b=some o->b∉X.ex
 exfs:∀ b∈X.ex,b∉X.fs
 funs:X.s₀.heap.FunFrames X.base X.outer
 frf:∀ b∈X.fs,X.H₀ b=none
structure Inv (X:Cx) (pins:List (Addr×Obj)) (σ:List (Option V)) (H:Hp) (s:Shared):Prop where
 ok:X.Ok
 os:s.os=X.s₀.os
 bare:AllBare s.gens
 base:Un X.fs X.ex X.H₀ H X.s₀.heap s.heap
 loc:∃ m,s.heap.Ns X.env.locals m/\∀ (i:Nat) (x:Str) (v:V),X.N[i]?=some x->σ[i]?=some (some v)->Vis X.env.scope x->∃ u,RelV v u/\Look X.env s.heap m x u
 cell:∀ x c,X.env.cells.lookup x=some c->∃ v,s.heap.IsCell c v
 free:H X.env.locals=none
 freeC:∀ x c,X.env.cells.lookup x=some c->H c=none
 pin:∀ p∈X.pn++pins,s.heap.get? p.1=some p.2/\H p.1=none/\p.1≠X.env.locals/\p.1∉X.fs/\∀ v,p.2.data≠.cell v
 hok:HOk X.prog X.w H s.heap
 len:σ.length=X.N.length
section
variable {X:Cx} {pins:List (Addr×Obj)} {σ:List (Option V)} {H H':Hp} {s:Shared} {h':Heap}
theorem Cx.Ok.nofr (ok:X.Ok) {b:Addr} {o:Obj} (e:X.base.get? b=some o):b∉X.fs:=fun hb=>by
 have:=(ok.funs.mem hb).1
 rw[e] at this;cases this
theorem Inv.bs (I:Inv X pins σ H s):∀ b o,X.base.get? b=some o->s.heap.get? b=some o/\H b=none:=fun b o e =>
 ⟨I.base.keep b o (I.ok.bs b o e).1 (I.ok.bs b o e).2 (I.ok.nofr e) (I.ok.noex b o e),I.base.free b o (I.ok.bs b o e).1 (I.ok.bs b o e).2 (I.ok.noex b o e)⟩
theorem Inv.bk (I:Inv X pins σ H s):∀ b o,X.base.get? b=some o->s.heap.get? b=some o:=fun b o e=>(I.bs b o e).1
theorem Inv.mod (I:Inv X pins σ H s):Mod X.K X.mg X.base:=I.ok.mod
theorem Inv.kIn (I:Inv X pins σ H s):X.K.In s.heap:=I.ok.mod.kin.keeps I.bk
theorem Inv.lt (I:Inv X pins σ H s):X.env.locals < s.heap.objs.size:=let ⟨_,hn,_⟩:=I.loc;hn.lt
theorem Inv.sz (I:Inv X pins σ H s):X.s₀.heap.objs.size<=s.heap.objs.size:=Nat.le_trans I.ok.above (Nat.le_of_lt I.lt)
theorem Inv.nofs (I:Inv X pins σ H s) {a:Addr} (h:s.heap.objs.size<=a):a∉X.fs:=fun hb=>by
 obtain ⟨_,o,ho,_⟩:=I.ok.funs.mem hb
 exact absurd (Nat.lt_of_lt_of_le (Heap.lt_size ho) (Nat.le_trans I.sz h)) (Nat.lt_irrefl _)
theorem Inv.cne (I:Inv X pins σ H s):∀ x c,X.env.cells.lookup x=some c->c≠X.env.locals:=fun x c e z=>by
 obtain ⟨v,o,ho,hd⟩:=I.cell x c e
 obtain ⟨m,⟨o',es,ep,ho',hd',_⟩,_⟩:=I.loc
 rw[z,ho'] at ho;cases ho;rw[hd'] at hd;cases hd
theorem Inv.funs (I:Inv X pins σ H s):s.heap.FunFrames X.base X.outer:=by
 have all:∀ (l:List Env),(∀ b∈frs l,b∈X.fs)->X.s₀.heap.FunFrames X.base l->s.heap.FunFrames X.base l:=by
  intro l
  induction l with
  | nil=>intro _ _;trivial
  | cons env r ih =>
   intro hs hl
   obtain ⟨hk,⟨L,o,hf,hn,ho,hd⟩,hr⟩:=hl
   have hL:L∈X.fs:=hs L (by unfold frs;rw[filterMap_cons,hf];exact mem_cons_self)
   obtain ⟨sl,e⟩:=I.base.slot L o ho (I.ok.frf L hL) hL fun z=>I.ok.exfs L z hL
   exact ⟨hk,⟨L,_,hf,hn,e,hd⟩,ih (fun b hb=>hs b (by unfold frs;rw[filterMap_cons,hf];exact mem_cons_of_mem _ hb)) hr⟩
 exact all X.outer (fun _ hb=>hb) I.ok.funs
theorem Inv.stack (I:Inv X pins σ H s):s.heap.FunFrames X.base X.stack:=by
 rcases I.ok.stk with e|⟨e,hf⟩
 ·rw[e];exact I.funs
 ·rw[e]
  obtain ⟨m,hn,_⟩:=I.loc
  refine .cons (by rw[I.ok.kind];decide) hf hn ?_ I.funs
  exact Heap.get?_none_of_le (Nat.le_trans I.ok.bsz I.ok.above)
theorem Inv.stkSub (I:Inv X pins σ H s):∀ b∈frs X.stack,b∈X.env.locals::X.fs:=fun b hb=>by
 rcases I.ok.stk with e|⟨e,hf⟩
 ·rw[e] at hb;exact mem_cons_of_mem _ hb
 ·rw[e] at hb
  unfold frs at hb
  rw[filterMap_cons,hf] at hb
  exact hb
theorem Inv.stkFree (I:Inv X pins σ H s):∀ b∈frs X.stack,H b=none:=fun b hb=>by
 rcases mem_cons.mp (I.stkSub b hb) with e|hb
 ·rw[e];exact I.free
 ·obtain ⟨_,o,ho,_⟩:=I.ok.funs.mem hb
  exact I.base.free b o ho (I.ok.frf b hb) fun z=>I.ok.exfs b z hb
theorem Inv.step {g':Array GenState} {t':Nat} {d':Drawn} {ch:List Addr} (I:Inv X pins σ H s)
  (hch:∀ b∈ch,(b∈X.ex\/X.s₀.heap.objs.size<=b)/\b≠X.env.locals/\(∀ x c,X.env.cells.lookup x=some c->c≠b)/\∀ p∈X.pn++pins,p.1≠b)
  (keep:∀ b o,b≠X.env.locals->b∉X.fs->b∉ch->s.heap.get? b=some o->H b=none->h'.get? b=some o)
  (slot:∀ b o,b≠X.env.locals->b∈X.fs->b∉ch->s.heap.get? b=some o->H b=none->∃ sl,h'.get? b=some { o with slots:=sl }) (free:∀ b o,b∉ch->s.heap.get? b=some o->H b=none->H' b=none)
  (there:∀ b o,b∉ch->s.heap.get? b=some o->∃ o',h'.get? b=some o')
  (tups:∀ b xs,H b=some (.tup xs)->H' b=some (.tup xs)) (frzs:∀ b o u,H b=some (.frz o u)->H' b=some (.frz o u)) (tbls:∀ b ps,H b=some (.tbl ps)->∃ more,H' b=some (.tbl (ps++more)))
  (ns:∀ m,s.heap.Ns X.env.locals m->h'.Ns X.env.locals m) (hok:HOk X.prog X.w H' h') (hg:AllBare g') :
  Inv X pins σ H' { s with heap:=h',gens:=g',drawn:=d',toks:=t' }:=by
 have neL:∀ b o,X.s₀.heap.get? b=some o->b≠X.env.locals:=fun b o e=>Nat.ne_of_lt (Nat.lt_of_lt_of_le (Heap.lt_size e) I.ok.above)
 have neC:∀ b o,X.s₀.heap.get? b=some o->b∉X.ex->b∉ch:=fun b o e hx hb=>by
  rcases (hch b hb).1 with z|z
  ·exact hx z
  ·exact absurd (Nat.lt_of_lt_of_le (Heap.lt_size e) z) (Nat.lt_irrefl _)
 have cellK:∀ x c,X.env.cells.lookup x=some c->∀ v,s.heap.IsCell c v->h'.IsCell c v:=fun x c e v ⟨o,ho,hd⟩=>by
  have nch:c∉ch:=fun z=>(hch c z).2.2.1 x c e rfl
  by_cases hc:c∈X.fs
  ·obtain ⟨sl,q⟩:=slot c o (I.cne x c e) hc nch ho (I.freeC x c e)
   exact ⟨_,q,hd⟩
  ·exact ⟨o,keep c o (I.cne x c e) hc nch ho (I.freeC x c e),hd⟩
 refine ⟨I.ok,I.os,hg,⟨fun b o e n hb hx=>?_,fun b o e n hb hx=>?_,fun b o e n hx=>?_,fun b o e hx=>?_,fun b xs e=>tups b xs (I.base.tups b xs e),fun b o xs e=>frzs b o xs (I.base.frzs b o xs e),fun b ps e=>?_⟩,?_,fun x c e=>?_,?_,fun x c e=>?_,fun p hp=>?_,hok,I.len⟩
 ·exact keep b o (neL b o e) hb (neC b o e hx) (I.base.keep b o e n hb hx) (I.base.free b o e n hx)
 ·obtain ⟨sl,e1⟩:=I.base.slot b o e n hb hx
  obtain ⟨sl',e2⟩:=slot b _ (neL b o e) hb (neC b o e hx) e1 (I.base.free b o e n hx)
  exact ⟨sl',e2⟩
 ·obtain ⟨o',e1⟩:=I.base.there b o e hx
  exact free b o' (neC b o e hx) e1 (I.base.free b o e n hx)
 ·obtain ⟨o',e1⟩:=I.base.there b o e hx
  exact there b o' (neC b o e hx) e1
 ·obtain ⟨m1,e1⟩:=I.base.tbls b ps e
  obtain ⟨m2,e2⟩:=tbls b _ e1
  exact ⟨m1++m2,by rw[e2,Array.append_assoc]⟩
 ·obtain ⟨m,hn,hl⟩:=I.loc
  refine ⟨m,ns m hn,fun i x v e1 e2 e3=>?_⟩
  obtain ⟨u,r,l⟩:=hl i x v e1 e2 e3
  refine ⟨u,r,?_⟩
  rcases l with l|⟨k,c,e,z⟩
  ·exact .inl l
  ·exact .inr ⟨k,c,e,cellK x c e _ z⟩
 ·obtain ⟨v,z⟩:=I.cell x c e
  exact ⟨v,cellK x c e v z⟩
 ·obtain ⟨m,⟨o,_,_,ho,_⟩,_⟩:=I.loc
  exact free _ o (fun z=>(hch _ z).2.1 rfl) ho I.free
 ·obtain ⟨v,o,ho,hd⟩:=I.cell x c e
  exact free c o (fun z=>(hch c z).2.2.1 x c e rfl) ho (I.freeC x c e)
 ·obtain ⟨e,n,ne,nf,d⟩:=I.pin p hp
  have nch:p.1∉ch:=fun z=>(hch p.1 z).2.2.2 p hp rfl
  exact ⟨keep p.1 p.2 ne nf nch e n,free p.1 p.2 nch e n,ne,nf,d⟩
theorem Inv.un {t':Nat} (I:Inv X pins σ H s) (u:Un X.fs [] H H' s.heap h') (hok:HOk X.prog X.w H' h'):Inv X pins σ H' { s with heap:=h',toks:=t' }:=by
 obtain ⟨m,⟨o,es,ep,ho,r⟩,_⟩:=id I.loc
 obtain ⟨sl,hL⟩:=u.any ho I.free (by simp)
 exact I.step (g':=s.gens) (d':=s.drawn) (ch:=[]) (fun _ z=>nomatch z) (fun b o _ hb _ e n=>u.keep b o e n hb (by simp)) (fun b o _ hb _ e n=>u.slot b o e n hb (by simp)) (fun b o _ e n=>u.free b o e n (by simp)) (fun b o _ e=>u.there b o e (by simp)) u.tups u.frzs u.tbls (fun m' hm=>by
  obtain ⟨o',es',ep',ho',r'⟩:=hm
  rw[ho] at ho';cases ho'
  exact ⟨_,es',ep',hL,r'⟩) hok I.bare
theorem Inv.call {g':Array GenState} {t':Nat} {d':Drawn} {ch:List Addr} (I:Inv X pins σ H s) (u:Un (frs X.stack) ch H H' s.heap h') (hok:HOk X.prog X.w H' h') (hg:AllBare g')
  (hch:∀ b∈ch,(b∈X.ex\/X.s₀.heap.objs.size<=b)/\b≠X.env.locals/\(∀ x c,X.env.cells.lookup x=some c->c≠b)/\∀ p∈X.pn++pins,p.1≠b) :
  Inv X pins σ H' { s with heap:=h',gens:=g',drawn:=d',toks:=t' }:=by
 obtain ⟨m,⟨o,es,ep,ho,r⟩,_⟩:=id I.loc
 obtain ⟨sl,hL⟩:=u.any ho I.free fun z=>(hch _ z).2.1 rfl
 exact I.step (ch:=ch) hch (fun b o hL hb hc e n=>u.keep b o e n (fun z=>(mem_cons.mp (I.stkSub b z)).elim hL hb) hc) (fun b o _ _ hc e n=>u.any e n hc) (fun b o hc e n=>u.free b o e n hc) (fun b o hc e=>u.there b o e hc) u.tups u.frzs u.tbls (fun m' hm=>by
  obtain ⟨o',es',ep',ho',r'⟩:=hm
  rw[ho] at ho';cases ho'
  exact ⟨_,es',ep',hL,r'⟩) hok hg
theorem Inv.turned {t':Nat} {it:Addr} (I:Inv X pins σ H s) (k:∀ b o,b≠it->s.heap.get? b=some o->h'.get? b=some o) (hn:H it=none) (hL:it≠X.env.locals)
  (h1:it∈X.ex\/X.s₀.heap.objs.size<=it) (h2:∀ x c,X.env.cells.lookup x=some c->c≠it) (h3:∀ p∈X.pn++pins,p.1≠it):Inv X pins σ H { s with heap:=h',toks:=t' }:=by
 have nit:∀ b u,H b=some u->b≠it:=fun b u e z=>by rw[z,hn] at e;cases e
 refine I.step (g':=s.gens) (d':=s.drawn) (ch:=[it]) (fun b hb=>?_) (fun b o _ _ hc e _=>k b o (fun z=>hc (by simp[z])) e) (fun b o _ _ hc e _=>⟨o.slots,k b o (fun z=>hc (by simp[z])) e⟩) (fun _ _ _ _ n=>n)
  (fun b o hc e=>⟨o,k b o (fun z=>hc (by simp[z])) e⟩) (fun _ _ e=>e) (fun _ _ _ e=>e) (fun b ps e=>⟨#[],by rw[e];simp⟩) (fun m hm=>?_) (fun b u e=>?_) I.bare
 ·have e:b=it:=by simpa using hb
  subst e
  exact ⟨h1,hL,h2,h3⟩
 ·obtain ⟨o,es,ep,ho,r⟩:=hm
  exact ⟨o,es,ep,k _ o (Ne.symm hL) ho,r⟩
 ·refine (I.hok b u e).stay (fun c v hc q=>k c v ?_ q) (fun _ q=>q) fun _ _ q=>q
  rcases hc with z|z
  ·rw[z];exact nit b u e
  ·exact nit c _ z
theorem Inv.tok (I:Inv X pins σ H s) (t:Nat):Inv X pins σ H { s with toks:=t }:=I.un (h':=s.heap) (t':=t) Un.refl I.hok
theorem Inv.kept {t':Nat} (I:Inv X pins σ H s) (k:∀ b u,s.heap.get? b=some u->h'.get? b=some u):Inv X pins σ H { s with heap:=h',toks:=t' }:=I.un (Un.kept k) (I.hok.kept k)
theorem Inv.laid {a:Addr} {o:HO} {t':Nat} (I:Inv X pins σ H s) (k:∀ b u,s.heap.get? b=some u->h'.get? b=some u) (hp:s.heap.objs.size<=a) (new:ObjOk X.prog X.w (upd H a o) h' a o) :
  Inv X pins σ (upd H a o) { s with heap:=h',toks:=t' }:=I.un (Un.laid k hp (I.hok.fresh hp)) (I.hok.laid k hp new)
theorem Inv.write {x e:Addr} {o:HO} {t':Nat} (I:Inv X pins σ H s) (mu:Mut (H x)) (he:e=x\/H e=some (.own x)) (k:∀ b u,b≠e->s.heap.get? b=some u->h'.get? b=some u) (heo:∃ u,h'.get? e=some u)
  (new:ObjOk X.prog X.w (upd H x o) h' x o):Inv X pins σ (upd H x o) { s with heap:=h',toks:=t' }:=I.un (Un.write mu he k heo) (I.hok.write mu he k heo new)
theorem Inv.pins_of {pins':List (Addr×Obj)} (I:Inv X pins σ H s) (h:∀ p∈pins',s.heap.get? p.1=some p.2/\H p.1=none/\p.1≠X.env.locals/\p.1∉X.fs/\∀ v,p.2.data≠.cell v):Inv X pins' σ H s :=
 ⟨I.ok,I.os,I.bare,I.base,I.loc,I.cell,I.free,I.freeC,fun p hp=>(mem_append.mp hp).elim (fun z=>I.pin p (mem_append_left _ z)) (h p),I.hok,I.len⟩
theorem Zib {N:List Str} (hN:N.Nodup) {i j:Nat} {x:Str} (a:N[i]?=some x) (b:N[j]?=some x):i=j:=by
 obtain ⟨h1,e1⟩:=List.getElem?_eq_some_iff.mp a
 obtain ⟨h2,e2⟩:=List.getElem?_eq_some_iff.mp b
 exact (getElem_inj hN).mp (e1.trans e2.symm)
theorem Zgi {M:Model} {A:Around} {E:Value->Shared->Prop} {i:Nat} {x:Str} {v:V} {u:Value} {Q:Unit->Shared->Prop} (I:Inv X pins σ H s) (hN:X.N.Nodup) (hi:X.N[i]?=some x) (hx:Loc X.env.scope x) (r:RelV v u)
  (h:∀ s',Inv X pins (σ.set i (some v)) H s'->(∃ a,Heap.SameBut a s.heap s'.heap/\(a=X.env.locals\/X.env.cells.lookup x=some a))->Q () s') (hf:X.fn x=true\/X.env.scope.names.lookup x=some .local:=by first|exact .inl rfl|exact .inr rfl|assumption):wpAny M A (storeName X.env x u) Q E s:=by
 obtain ⟨m,hn,hl⟩:=id I.loc
 have hcls:(X.env.scope.kind == .class || (X.env.scope.kind == .module && X.env.locals != X.env.globals))=false:=by rw[I.ok.kind];rfl
 have hiσ:i < σ.length:=by rw[I.len];exact (List.getElem?_eq_some_iff.mp hi).1
 have cne:=I.cne
 have tracked:∀ {a:Addr} {h':Heap},(∃ o,s.heap.get? a=some o/\H a=none)->Heap.SameBut a s.heap h'->HOk X.prog X.w H h':=fun {a h'} ha hs b ob e=>by
  obtain ⟨_,_,hfree⟩:=ha
  refine (I.hok b ob e).stay (fun c w' hc q=>(hs.2 c ?_).trans q) (fun _ q=>q) fun _ _ q=>q
  rintro rfl
  rcases hc with rfl|hc
  ·rw[hfree] at e;cases e
  ·rw[hfree] at hc;cases hc
 rcases hx with hk|hk
 ·refine wpAny_storeName_local hk hn (fun h' hn' hs=>?_) hcls
  obtain ⟨oL,_,_,hoL,_⟩:=id hn
  refine h _ ⟨I.ok,I.os,I.bare,⟨fun b o e n hb hx=>?_,fun b o e n hb hx=>?_,I.base.free,fun b o e hx=>?_,I.base.tups,I.base.frzs,I.base.tbls⟩,⟨_,hn',fun j y v' e1 e2 e3=>?_⟩,fun y c e=>?_,I.free,I.freeC,fun p hp=>?_,tracked ⟨oL,hoL,I.free⟩ hs,by simpa using I.len⟩ ⟨_,hs,.inl rfl⟩
  ·exact (hs.2 b (Nat.ne_of_lt (Nat.lt_of_lt_of_le (Heap.lt_size e) I.ok.above))).trans (I.base.keep b o e n hb hx)
  ·obtain ⟨sl,e1⟩:=I.base.slot b o e n hb hx
   exact ⟨sl,(hs.2 b (Nat.ne_of_lt (Nat.lt_of_lt_of_le (Heap.lt_size e) I.ok.above))).trans e1⟩
  ·obtain ⟨o',e1⟩:=I.base.there b o e hx
   exact ⟨o',(hs.2 b (Nat.ne_of_lt (Nat.lt_of_lt_of_le (Heap.lt_size e) I.ok.above))).trans e1⟩
  ·by_cases hj:j=i
   ·subst hj
    rw[hi] at e1;cases e1
    rw[getElem?_set_self hiσ] at e2
    cases e2
    exact ⟨u,r,.inl ⟨hk,by simp⟩⟩
   ·rw[getElem?_set_ne (Ne.symm hj)] at e2
    obtain ⟨u',r',q⟩:=hl j y v' e1 e2 e3
    refine ⟨u',r',?_⟩
    rcases q with ⟨k,e⟩|⟨k,c,e,z⟩
    ·refine .inl ⟨k,?_⟩
     have:y≠x:=fun e=>hj (Zib hN e1 (e▸hi))
     simp[this,e]
    ·exact .inr ⟨k,c,e,z.sameBut hs (cne y c e)⟩
  ·obtain ⟨w',z⟩:=I.cell y c e
   exact ⟨w',z.sameBut hs (cne y c e)⟩
  ·obtain ⟨e,n,ne,nf,d⟩:=I.pin p hp
   exact ⟨(hs.2 p.1 ne).trans e,n,ne,nf,d⟩
 ·have hfn:X.fn x=true:=by
   rcases hf with z|z
   ·exact z
   ·rw[z] at hk;cases hk
  obtain ⟨c,hc⟩:=I.ok.has x (.inl hk)
  obtain ⟨w',z⟩:=I.cell x c hc
  refine wpAny_storeName_cell I.ok.kind hk hc z (fun h' hc' hs=>?_)
  obtain ⟨oc,hoc,hocd⟩:=id z
  refine h { s with heap:=h' } ⟨I.ok,I.os,I.bare,⟨fun b o e n hb hx=>?_,fun b o e n hb hx=>?_,I.base.free,fun b o e hx=>?_,I.base.tups,I.base.frzs,I.base.tbls⟩,⟨m,hn.sameBut hs (Ne.symm (cne x c hc)),fun j y v' e1 e2 e3=>?_⟩,fun y c' e=>?_,I.free,I.freeC,fun p hp=>?_,tracked ⟨oc,hoc,I.freeC x c hc⟩ hs,by simpa using I.len⟩ ⟨c,hs,.inr hc⟩
  ·exact (hs.2 b (Nat.ne_of_lt (Nat.lt_of_lt_of_le (Heap.lt_size e) (I.ok.cab x c hfn hc)))).trans (I.base.keep b o e n hb hx)
  ·obtain ⟨sl,e1⟩:=I.base.slot b o e n hb hx
   exact ⟨sl,(hs.2 b (Nat.ne_of_lt (Nat.lt_of_lt_of_le (Heap.lt_size e) (I.ok.cab x c hfn hc)))).trans e1⟩
  ·obtain ⟨o',e1⟩:=I.base.there b o e hx
   exact ⟨o',(hs.2 b (Nat.ne_of_lt (Nat.lt_of_lt_of_le (Heap.lt_size e) (I.ok.cab x c hfn hc)))).trans e1⟩
  ·by_cases hj:j=i
   ·subst hj
    rw[hi] at e1;cases e1
    rw[getElem?_set_self hiσ] at e2
    cases e2
    exact ⟨u,r,.inr ⟨.inl hk,c,hc,hc'⟩⟩
   ·rw[getElem?_set_ne (Ne.symm hj)] at e2
    obtain ⟨u',r',q⟩:=hl j y v' e1 e2 e3
    refine ⟨u',r',?_⟩
    rcases q with q|⟨k,c',e,z'⟩
    ·exact .inl q
    ·refine .inr ⟨k,c',e,z'.sameBut hs ?_⟩
     rintro rfl
     exact hj (Zib hN e1 (I.ok.inj _ _ _ e hc▸hi))
  ·by_cases hcc:c'=c
   ·subst hcc;exact ⟨_,hc'⟩
   ·obtain ⟨w2,z2⟩:=I.cell y c' e
    exact ⟨w2,z2.sameBut hs hcc⟩
  ·obtain ⟨e,n,ne,nf,d⟩:=I.pin p hp
   refine ⟨(hs.2 p.1 ?_).trans e,n,ne,nf,d⟩
   intro q
   rw[q,hoc] at e
   have q':oc=p.2:=Option.some.inj e
   exact d w' (by rw[<-q'];exact hocd)
theorem ZhY {M:Model} {A:Around} {E:Value->Shared->Prop} {i:Nat} {x:Str} {v:V} {u:Value} {Q:Unit->Shared->Prop} (I:Inv X pins σ H s) (hN:X.N.Nodup) (hi:X.N[i]?=some x) (hx:Loc X.env.scope x) (r:RelV v u)
  (h:∀ s',Inv X pins (σ.set i (some v)) H s'->Q () s') (hf:X.fn x=true\/X.env.scope.names.lookup x=some .local:=by first|exact .inl rfl|exact .inr rfl|assumption):wpAny M A (storeName X.env x u) Q E s :=
 Zgi I hN hi hx r (fun s' I' _=>h s' I') hf
theorem Inv.call' {s':Shared} {ch:List Addr} (I:Inv X pins σ H s) (ho:s'.os=s.os) (u:Un (frs X.stack) ch H H' s.heap s'.heap) (hok:HOk X.prog X.w H' s'.heap) (hg:AllBare s'.gens)
  (hch:∀ b∈ch,(b∈X.ex\/X.s₀.heap.objs.size<=b)/\b≠X.env.locals/\(∀ x c,X.env.cells.lookup x=some c->c≠b)/\∀ p∈X.pn++pins,p.1≠b):Inv X pins σ H' s':=by
 obtain ⟨h',g',d',t',o'⟩:=s'
 have e:o'=s.os:=ho
 subst e
 exact I.call (g':=g') (t':=t') (d':=d') u hok hg hch
end
abbrev XK:=Value->Option Addr->Hp->Prop
abbrev St:=List (Option V)
abbrev VK:=V->Hp->Prop
abbrev TE:=St->Hp->VK->Prop
abbrev TT:=St->Hp->(Bool->Hp->Prop)->Prop
abbrev TA:=St->Hp->(List V->Hp->Prop)->Prop
structure Ends where
 nx:St->Hp->Prop
 rt:VK
 bk:St->Hp->Prop:=fun _ _=>False
 ct:St->Hp->Prop:=fun _ _=>False
abbrev TS:=Ends->St->Hp->Prop
def EP (X:Cx) (pins:List (Addr×Obj)) (σ:St) (Q:VK) (u:Value) (s':Shared):Prop:=∃ v H',Inv X pins σ H' s'/\RelV v u/\Q v H'
def TP (X:Cx) (pins:List (Addr×Obj)) (σ:St) (Q:Bool->Hp->Prop) (b:Bool) (s':Shared):Prop:=∃ H',Inv X pins σ H' s'/\Q b H'
def AP (X:Cx) (pins:List (Addr×Obj)) (σ:St) (Q:List V->Hp->Prop) (us:List Value) (s':Shared):Prop:=∃ vs H',Inv X pins σ H' s'/\Vals vs us/\Q vs H'
def SP (X:Cx) (pins:List (Addr×Obj)) (D:Ends) (f:Flow) (s':Shared):Prop :=
 match f with
 | .next=>∃ σ' H',Inv X pins σ' H' s'/\D.nx σ' H'
 | .brk=>∃ σ' H',Inv X pins σ' H' s'/\D.bk σ' H'
 | .cont=>∃ σ' H',Inv X pins σ' H' s'/\D.ct σ' H'
 | .ret u=>∃ v σ' H',Inv X pins σ' H' s'/\RelV v u/\D.rt v H'
def PE (X:Cx) (e:Expr) (t:TE):Prop :=
 ∀ (pins:List (Addr×Obj)) (s:Shared) (σ:St) (H:Hp) (Q:VK),Inv X pins σ H s->t σ H Q->wpAny (model X.prog X.w) X.A (eval e X.env) (EP X pins σ Q) X.xe s
def PT (X:Cx) (e:Expr) (t:TT):Prop :=
 ∀ (pins:List (Addr×Obj)) (s:Shared) (σ:St) (H:Hp) (Q:Bool->Hp->Prop),Inv X pins σ H s->t σ H Q->wpAny (model X.prog X.w) X.A (isTrue e X.env (eval e X.env)) (TP X pins σ Q) X.xe s
def PW (X:Cx) (e:Expr) (t:TT):Prop :=
 ∀ (whole:Sem Value) (pins:List (Addr×Obj)) (s:Shared) (σ:St) (H:Hp) (Q:Bool->Hp->Prop),Inv X pins σ H s->t σ H Q->wpAny (model X.prog X.w) X.A (isTrue e X.env whole) (TP X pins σ Q) X.xe s
theorem PW.pt {X:Cx} {e:Expr} {t:TT} (h:PW X e t):PT X e t:=h _
def PA (X:Cx) (es:List Expr) (t:TA):Prop :=
 ∀ (pos:Pos) (pins:List (Addr×Obj)) (s:Shared) (σ:St) (H:Hp) (Q:List V->Hp->Prop),Inv X pins σ H s->t σ H Q->wpAny (model X.prog X.w) X.A (spliced (backTo pos (starEach es X.env))) (AP X pins σ Q) X.xe s
def PS (X:Cx) (st:Stmt) (t:TS):Prop :=
 ∀ (pins:List (Addr×Obj)) (s:Shared) (σ:St) (H:Hp) (D:Ends),Inv X pins σ H s->t D σ H->wpAny (model X.prog X.w) X.A (exec st X.env) (SP X pins D) X.xe s
def PSs (X:Cx) (st:List Stmt) (t:TS):Prop :=
 ∀ (pins:List (Addr×Obj)) (s:Shared) (σ:St) (H:Hp) (D:Ends),Inv X pins σ H s->t D σ H->wpAny (model X.prog X.w) X.A (execs st X.env) (SP X pins D) X.xe s
theorem thn {α:Type} {t:Sem α} {Q Q':α->Shared->Prop} {M:Model} {A:Around} {E:Value->Shared->Prop} {s:Shared} (h:wpAny M A t Q E s) (hQ:∀ a s,Q a s->Q' a s):wpAny M A t Q' E s:=wpAny_mono h hQ fun _ _ x=>x
end L2
namespace L2
open PySem PySem.Spec PyProof.Rows
section
variable {X:Cx}
theorem bin {a b:Expr} {ta tb:TE} (ha:PE X a ta) (hb:PE X b tb) {pins:List (Addr×Obj)} {s:Shared} {σ:St} {H:Hp} {R:V->V->Hp->Prop} (I:Inv X pins σ H s) (h:ta σ H fun x H1=>tb σ H1 fun y H2=>R x y H2)
  {α:Type} {Q:α->Shared->Prop} {f:Value->Value->Sem α}
  (hf:∀ v u s2 x y H2,Inv X pins σ H2 s2->RelV x v->RelV y u->R x y H2->wpAny (model X.prog X.w) X.A (f v u) Q X.xe s2) :
  wpAny (model X.prog X.w) X.A (eval a X.env) (fun v s₁=>wpAny (model X.prog X.w) X.A (eval b X.env) (fun u s₂=>wpAny (model X.prog X.w) X.A (f v u) Q X.xe s₂) X.xe s₁) X.xe s:=by
 refine thn (ha pins s σ H _ I h) fun v s1 ⟨x,H1,I1,r1,q1⟩=>?_
 refine thn (hb pins s1 σ H1 _ I1 q1) fun u s2 ⟨y,H2,I2,r2,q2⟩=>?_
 exact hf v u s2 x y H2 I2 r1 r2 q2
def tVar (i:Nat):TE:=fun σ H Q=>∃ v,σ[i]?=some (some v)/\Q v H
def tC (v:V):TE:=fun _ H Q=>Q v H
theorem pe_var {i:Nat} {x:Str} {pos:Pos} (hN:X.N[i]?=some x) (hv:Vis X.env.scope x) (hd:(x == ("__debug__":Str))=false:=by decide) (hcd:(x == ("__classdict__":Str))=false:=by decide):PE X (.Name x pos) (tVar i):=by
 intro pins s σ H Q I h
 obtain ⟨v,e,h⟩:=h
 obtain ⟨m,hn,hl⟩:=I.loc
 obtain ⟨u,r,l⟩:=hl i x v hN e hv
 have fin:EP X pins σ Q u s:=⟨v,H,I,r,h⟩
 rcases l with ⟨hk,hm⟩|⟨hk,c,hc,hcell⟩
 ·exact wpAny_Name (wpAny_loadName_local I.ok.kind hk hn hm fin) hd
 ·rcases hk with hk|hk
  ·exact wpAny_Name (wpAny_loadName_cell I.ok.kind hk hc hcell fin) hd
  ·exact wpAny_Name (wpAny_loadName_free I.ok.kind hk hc hcell fin hcd) hd
theorem Zaa {i j pos}:PE X (.Constant (.int i) j pos) (tC (.int i)):=fun _ _ _ H _ I h=>wpAny_Constant_int ⟨.int i,H,I.tok _,⟨_,rfl⟩,h⟩
theorem ZiB {b j pos}:PE X (.Constant (.bool b) j pos) (tC (.bl b)):=fun _ _ _ H _ I h=>Constant_bool ⟨.bl b,H,I,rfl,h⟩
theorem Zcr {j pos}:PE X (.Constant .none j pos) (tC .non):=fun _ _ _ H _ I h=>Constant_none ⟨.non,H,I,rfl,h⟩
theorem Zat {x j pos}:PE X (.Constant (.str x) j pos) (tC (.str x)):=fun _ _ _ H _ I h=>Calls.Constant_str ⟨.str x,H,I.tok _,⟨_,rfl⟩,h⟩
def Gl (X:Cx) (x:Str):Prop:=X.env.kindOf x=some .globalImplicit
theorem ZhC {E:Value->Shared->Prop} {pins:List (Addr×Obj)} {s:Shared} {σ:St} {H:Hp} {x:Str} {u:Value} {pos:Pos} {Q:Value->Shared->Prop} (I:Inv X pins σ H s) (hg:Gl X x) (hm:X.mg x=some u) (h:Q u s)
  (hd:(x == ("__debug__":Str))=false:=by decide):wpAny (model X.prog X.w) X.A (eval (.Name x pos) X.env) Q E s :=
 Calls.Name_function_global I.ok.kind hg (Calls.loadGlobal_global (by rw[I.ok.glob];exact I.mod.glob.keeps I.bk) hm h) hd
theorem Zic {E:Value->Shared->Prop} {pins:List (Addr×Obj)} {s:Shared} {σ:St} {H:Hp} {x:Str} {u:Value} {pos:Pos} {Q:Value->Shared->Prop} (I:Inv X pins σ H s) (hg:Gl X x) (hm:X.mg x=none) (hv:bootBuiltins x=some u) (h:Q u s)
  (hn:x≠"__name__":=by decide) (hd:(x == ("__debug__":Str))=false:=by decide):wpAny (model X.prog X.w) X.A (eval (.Name x pos) X.env) Q E s:=by
 obtain ⟨mb,h1,h2⟩:=I.mod.blt
 exact Calls.Name_function_global I.ok.kind hg (Calls.loadGlobal_builtin (by rw[I.ok.glob];exact I.mod.glob.keeps I.bk) hm (by rw[I.ok.blt];exact h1.keeps I.bk) ((h2 x hn).trans hv) h) hd
theorem Zhy {x:Str} {v:V} {u:Value} {pos:Pos} (hg:Gl X x) (hm:X.mg x=some u) (r:RelV v u) (hd:(x == ("__debug__":Str))=false:=by decide):PE X (.Name x pos) (tC v) :=
 fun _ _ _ H _ I h=>ZhC I hg hm ⟨v,H,I,r,h⟩ hd
variable {a b:Expr} {ta tb:TE} {pos:Pos}
def PC (X:Cx) (op:CmpOp) (a b:Expr) (t:TE):Prop :=
 ∀ (pins:List (Addr×Obj)) (s:Shared) (σ:St) (H:Hp) (Q:VK),Inv X pins σ H s->t σ H Q ->
  wpAny (model X.prog X.w) X.A (eval a X.env) (fun v s₁=>wpAny (model X.prog X.w) X.A (eval b X.env) (fun u s₂=>wpAny (model X.prog X.w) X.A (compareOp op v u) (EP X pins σ Q) X.xe s₂) X.xe s₁) X.xe s
theorem ZkL (b:Expr) {op:CmpOp} (h:op≠.In) (h2:op≠.NotIn):behindInMarks op b=false:=by
 have e1:(op == CmpOp.In)=false:=by cases op <;> first|rfl|exact absurd rfl h
 have e2:(op == CmpOp.NotIn)=false:=by cases op <;> first|rfl|exact absurd rfl h2
 cases b <;> simp[behindInMarks,e1,e2]
def tB (t:TE):TT:=fun σ H Q=>t σ H fun x H1=>∃ c,x=.bl c/\Q c H1
theorem Zlt {op:CmpOp} {t:TE} (h:PC X op a b t) (h1:behindInMarks op b=false:=by first|exact ZkL _ (by decide) (by decide)|rfl):PT X (.Compare a [op] [b] pos) (tB t):=by
 intro pins s σ H Q I hw
 refine wpAny_isTrue_Compare1 (thn (h pins s σ H _ I hw) fun v s1 h1=>thn h1 fun u s2 h2=>thn h2 fun c s3 ⟨x,H1,I1,r1,q1⟩=>?_) h1
 obtain ⟨d,rfl,q⟩:=q1
 cases r1
 exact wpAny_truthy_bool ⟨H1,I1,q⟩
theorem ZdK {e:Expr} {t:TE} (h:PE X e t) (he:∀ whole,isTrue e X.env whole=(do let v <- whole;standAt e.pos;holding [v] (truthy v)):=by intro _;rfl):PT X e (tB t):=by
 intro pins s σ H Q I hw
 refine isTrue_plain (thn (h pins s σ H _ I hw) fun v s1 ⟨x,H1,I1,r1,q1⟩=>?_) (he _)
 obtain ⟨d,rfl,q⟩:=q1
 cases r1
 exact wpAny_truthy_bool ⟨H1,I1,q⟩
variable {tA tB':TT} {rest:List Expr}
def tAnd (t u:TT):TT:=fun σ H Q=>t σ H fun c H1=>if c=true then u σ H1 Q else Q false H1
def tOr (t u:TT):TT:=fun σ H Q=>t σ H fun c H1=>if c=true then Q true H1 else u σ H1 Q
def tNot (t:TT):TT:=fun σ H Q=>t σ H fun c H1=>Q (!c) H1
theorem Zba (ha:PT X a tA):PW X (.BoolOp .And [a] pos) tA:=by
 intro wh pins s σ H Q I h
 refine isTrue_and (thn (ha pins s σ H Q I h) fun c s1 e=>?_)
 cases c with
 | true=>exact isTrue_and_nil e
 | false=>exact e
theorem Zgz (ha:PT X a tA):PW X (.BoolOp .Or [a] pos) tA:=by
 intro wh pins s σ H Q I h
 refine isTrue_or (thn (ha pins s σ H Q I h) fun c s1 e=>?_)
 cases c with
 | false=>exact isTrue_or_nil e
 | true=>exact e
theorem Zbk (ha:PT X a tA) (hb:PW X (.BoolOp .And (b::rest) pos) tB'):PW X (.BoolOp .And (a::b::rest) pos) (tAnd tA tB'):=by
 intro wh pins s σ H Q I h
 refine isTrue_and (thn (ha pins s σ H _ I h) fun c s1 ⟨H1,I1,q1⟩=>?_)
 cases c with
 | true=>exact hb wh pins s1 σ H1 Q I1 q1
 | false=>exact ⟨H1,I1,q1⟩
theorem Ziz (ha:PT X a tA) (hb:PW X (.BoolOp .Or (b::rest) pos) tB'):PW X (.BoolOp .Or (a::b::rest) pos) (tOr tA tB'):=by
 intro wh pins s σ H Q I h
 refine isTrue_or (thn (ha pins s σ H _ I h) fun c s1 ⟨H1,I1,q1⟩=>?_)
 cases c with
 | true=>exact ⟨H1,I1,q1⟩
 | false=>exact hb wh pins s1 σ H1 Q I1 q1
theorem pt_not (ha:PT X a tA):PT X (.UnaryOp .Not a pos) (tNot tA):=by
 intro pins s σ H Q I h
 exact isTrue_not (ha pins s σ H (fun c H1=>Q (!c) H1) I h)
def tAndV (ta tb:TE):TE:=fun σ H Q=>ta σ H fun x H1=>∃ c,x=.bl c/\if c=true then tb σ H1 Q else Q (.bl false) H1
theorem pe_one {op} {t:TE} (h:PE X a t):PE X (.BoolOp op [a] pos) t:=fun pins s σ H Q I hw=>BoolOp_one (h pins s σ H Q I hw)
theorem pe_and (ha:PE X a ta) (hb:PE X (.BoolOp .And (b::rest) pos) tb):PE X (.BoolOp .And (a::b::rest) pos) (tAndV ta tb):=by
 intro pins s σ H Q I h
 refine BoolOp_and (thn (ha pins s σ H _ I h) fun v s1 ⟨x,H1,I1,r1,q1⟩=>?_)
 obtain ⟨c,rfl,q1⟩:=q1
 cases r1
 refine wpAny_truthy_bool ?_
 cases c with
 | true=>exact hb pins s1 σ H1 Q I1 q1
 | false=>exact ⟨.bl false,H1,I1,rfl,q1⟩
def tIf (t:TT) (ta tb:TE):TE:=fun σ H Q=>t σ H fun c H1=>if c=true then ta σ H1 Q else tb σ H1 Q
theorem ZdD {c:Expr} (hc:PT X c tA) (ha:PE X a ta) (hb:PE X b tb):PE X (.IfExp c a b pos) (tIf tA ta tb):=by
 intro pins s σ H Q I h
 refine wpAny_IfExp (thn (hc pins s σ H _ I h) fun d s1 ⟨H1,I1,q1⟩=>?_)
 cases d with
 | true=>exact ha pins s1 σ H1 Q I1 q1
 | false=>exact hb pins s1 σ H1 Q I1 q1
end
end L2
namespace L2
open PySem PySem.Spec PyProof.Rows
def SqL (K:W.Frag) (H:Hp) (a:Addr) (xs:List V):Prop :=
 Rd H a (.lst xs) \/
  ∃ (o:Obj) (its:Array Value) (n:Nat),K.lookup a=some o/\o.cls=.type "list"/\o.dict=none/\o.data=.seq its n/\its.size<=sizeLine/\Vals xs its.toList
def SqT (K:W.Frag) (H:Hp) (a:Addr) (xs:List V):Prop :=
 Rd H a (.tup xs) \/
  ∃ (o:Obj) (its:Array Value) (n:Nat),K.lookup a=some o/\o.cls=.type "tuple"/\o.data=.seq its n/\its.size<=sizeLine/\Vals xs its.toList
def absV:Value->Option V
 | .none=>some .non
 | .bool b=>some (.bl b)
 | .int i _=>some (.int i)
 | .str x _=>some (.str x)
 | .bytes b _=>some (.byt b)
 | .float b _=>some (.flt b)
 | .ref a=>some (.ref a)
 | .type n=>some (.ty n)
 | _=>none
theorem RelV.abs {x:V} {u:Value} (r:RelV x u):absV u=some x:=by
 cases x with
 | non=>cases r;rfl
 | bl _=>cases r;rfl
 | int _=>obtain ⟨t,rfl⟩:=r;rfl
 | str _=>obtain ⟨t,rfl⟩:=r;rfl
 | byt _=>obtain ⟨t,rfl⟩:=r;rfl
 | flt _=>obtain ⟨t,rfl⟩:=r;rfl
 | ref _=>cases r;rfl
 | ty _=>cases r;rfl
theorem RelV.inj {x y:V} {u:Value} (r:RelV x u) (q:RelV y u):x=y:=Option.some.inj (r.abs.symm.trans q.abs)
theorem Vals.inj {xs ys:List V} {us:List Value} (h:Vals xs us) (h':Vals ys us):xs=ys:=by
 induction h generalizing ys with
 | nil=>cases h';rfl
 | cons r _ ih =>
  cases h' with
  | cons r' t'=>rw[r.inj r',ih t']
section
variable {X:Cx} {pins:List (Addr×Obj)} {σ:St} {H:Hp} {s:Shared} {a:Addr} {xs ys:List V}
theorem SqL.of {K:W.Frag} (h:H a=some (.lst xs)):SqL K H a xs:=.inl (.inl h)
theorem SqT.of {K:W.Frag} (h:H a=some (.tup xs)):SqT K H a xs:=.inl (.inl h)
theorem Inv.list (I:Inv X pins σ H s) (h:SqL X.K H a xs):∃ its:List Value,Vals xs its/\PlainL s.heap a its.toArray/\xs.length<=sizeLine:=by
 rcases h with h|⟨o,its,n,hk,hc,hd,hs,hz,r⟩
 ·obtain ⟨z,its,n,r,e⟩:=h.ok I.hok
  exact ⟨its,r,⟨_,n,e,rfl,rfl,rfl⟩,z⟩
 ·refine ⟨its.toList,r,⟨o,n,I.kIn a o hk,hc,hd,by simpa using hs⟩,?_⟩
  have e:=r.length
  simp only[Array.length_toList] at e
  lia
theorem Inv.tuple (I:Inv X pins σ H s) (h:SqT X.K H a xs):∃ its:List Value,Vals xs its/\IsTup s.heap a its.toArray/\xs.length<=sizeLine:=by
 rcases h with h|⟨o,its,n,hk,hc,hs,hz,r⟩
 ·obtain ⟨z,its,r,p⟩:=h.ok I.hok
  exact ⟨its,r,p,z⟩
 ·refine ⟨its.toList,r,⟨o,I.kIn a o hk,hc,n,by simpa using hs⟩,?_⟩
  have e:=r.length
  simp only[Array.length_toList] at e
  lia
theorem Inv.list_inj (I:Inv X pins σ H s) (h:SqL X.K H a xs) (h':SqL X.K H a ys):xs=ys:=by
 obtain ⟨its,r,⟨o,n,e,_,_,d⟩,_⟩:=I.list h
 obtain ⟨its',r',⟨o',n',e',_,_,d'⟩,_⟩:=I.list h'
 rw[e] at e';cases e'
 rw[d] at d'
 injection d' with d1 _
 have:its=its':=by simpa using congrArg Array.toList d1
 subst this
 exact r.inj r'
theorem Inv.tuple_inj (I:Inv X pins σ H s) (h:SqT X.K H a xs) (h':SqT X.K H a ys):xs=ys:=by
 obtain ⟨its,r,⟨o,e,_,n,d⟩,_⟩:=I.tuple h
 obtain ⟨its',r',⟨o',e',_,n',d'⟩,_⟩:=I.tuple h'
 rw[e] at e';cases e'
 rw[d] at d'
 injection d' with d1 _
 have:its=its':=by simpa using congrArg Array.toList d1
 subst this
 exact r.inj r'
end
abbrev Cx.wish (X:Cx) (E:Value->Shared->Prop):Cx:={ X with xe:=E }
abbrev Cx.nox (X:Cx):Cx:=X.wish fun _ _=>False
theorem Cx.Ok.wish {X:Cx} (ok:X.Ok) (E:Value->Shared->Prop):(X.wish E).Ok :=
 ⟨ok.mod,ok.kind,ok.glob,ok.blt,ok.above,ok.inj,ok.has,ok.cab,ok.hd,ok.frames,ok.stk,ok.exf,ok.bs,ok.bsz,ok.noex,ok.exfs,ok.funs,ok.frf⟩
theorem Cx.Ok.unwish {X:Cx} {E:Value->Shared->Prop} (ok:(X.wish E).Ok):X.Ok :=
 ⟨ok.mod,ok.kind,ok.glob,ok.blt,ok.above,ok.inj,ok.has,ok.cab,ok.hd,ok.frames,ok.stk,ok.exf,ok.bs,ok.bsz,ok.noex,ok.exfs,ok.funs,ok.frf⟩
section
variable {X:Cx} {pins:List (Addr×Obj)} {σ:St} {H:Hp} {s:Shared} {E:Value->Shared->Prop}
theorem Inv.wish (I:Inv X pins σ H s) (E:Value->Shared->Prop):Inv (X.wish E) pins σ H s:=⟨I.ok.wish E,I.os,I.bare,I.base,I.loc,I.cell,I.free,I.freeC,I.pin,I.hok,I.len⟩
theorem Inv.unwish (I:Inv (X.wish E) pins σ H s):Inv X pins σ H s:=⟨I.ok.unwish,I.os,I.bare,I.base,I.loc,I.cell,I.free,I.freeC,I.pin,I.hok,I.len⟩
theorem SP.unwish {D:Ends} {f:Flow} {s':Shared} (h:SP (X.wish E) pins D f s'):SP X pins D f s':=by
 cases f with
 | next=>obtain ⟨σ',H',I,q⟩:=h;exact ⟨σ',H',I.unwish,q⟩
 | brk=>obtain ⟨σ',H',I,q⟩:=h;exact ⟨σ',H',I.unwish,q⟩
 | cont=>obtain ⟨σ',H',I,q⟩:=h;exact ⟨σ',H',I.unwish,q⟩
 | ret u=>obtain ⟨v,σ',H',I,r,q⟩:=h;exact ⟨v,σ',H',I.unwish,r,q⟩
theorem PSs.nox {st:List Stmt} {t:TS} (h:PSs X.nox st t):PSs X st t:=fun pins s σ H D I hw =>
 wpAny_mono (h pins s σ H D (I.wish _) hw) (fun _ _ q=>q.unwish) fun _ _ z=>False.elim z
end
section
variable {X:Cx} {st:Stmt} {rest:List Stmt} {t u:TS} {e:Expr} {te:TE} {pos:Pos}
def ZbH:TS:=fun D σ H=>D.nx σ H
def tSeq (t u:TS):TS:=fun D σ H=>t { D with nx:=u D } σ H
theorem ZaE:PSs X [] ZbH:=fun _ _ σ H _ I h=>wpAny_execs_nil ⟨σ,H,I,h⟩
theorem Zaf (h1:PS X st t) (h2:PSs X rest u):PSs X (st::rest) (tSeq t u):=by
 intro pins s σ H D I h
 refine wpAny_execs_cons (thn (h1 pins s σ H { D with nx:=u D } I h) fun f s1 q=>?_)
 cases f with
 | next =>
  obtain ⟨σ',H',I',q⟩:=q
  exact h2 pins s1 σ' H' D I' q
 | ret v=>exact q
 | brk=>exact q
 | cont=>exact q
theorem Zal (h1:PS X st t):PSs X [st] t:=by
 intro pins s σ H D I h
 refine wpAny_execs_cons (thn (h1 pins s σ H D I h) fun f s1 q=>?_)
 cases f with
 | next=>exact wpAny_execs_nil q
 | ret v=>exact q
 | brk=>exact q
 | cont=>exact q
theorem Inv.quiet {pins:List (Addr×Obj)} {σ:St} {H:Hp} {s:Shared} (I:Inv X pins σ H s):interactive X.env=false:=by simp[interactive,I.ok.kind]
def ZdI (te:TE):TS:=fun D σ H=>te σ H fun _ H1=>D.nx σ H1
theorem Zbm (he:PE X e te) (hs:swapsWith e none pos.line X.env=pure false:=by rfl):PS X (.Expr e pos) (ZdI te):=by
 intro pins s σ H D I h
 exact wpAny_Expr_any (thn (he pins s σ H _ I h) fun v s1 ⟨x,H1,I1,r1,q1⟩=>⟨σ,H1,I1,q1⟩) I.quiet hs
def tRet (te:TE):TS:=fun D σ H=>te σ H D.rt
theorem Zay (he:PE X e te):PS X (.Return (some e) pos) (tRet te):=by
 intro pins s σ H D I h
 exact wpAny_Return_some (thn (he pins s σ H _ I h) fun v s1 ⟨x,H1,I1,r1,q1⟩=>⟨x,σ,H1,I1,r1,q1⟩)
def tIfS (c:TT) (t u:TS):TS:=fun D σ H=>c σ H fun b H1=>if b=true then t D σ H1 else u D σ H1
theorem ZaZ {c:Expr} {a b:List Stmt} {tc:TT} (hc:PT X c tc) (ha:PSs X a t) (hb:PSs X b u):PS X (.If c a b pos) (tIfS tc t u):=by
 intro pins s σ H D I h
 refine wpAny_If (thn (hc pins s σ H _ I h) fun d s1 ⟨H1,I1,q1⟩=>?_)
 cases d with
 | true=>exact ha pins s1 σ H1 D I1 q1
 | false=>exact hb pins s1 σ H1 D I1 q1
end
abbrev TG:=V->St->Hp->(St->Hp->Prop)->Prop
abbrev TGs:=List V->St->Hp->(St->Hp->Prop)->Prop
def PG (X:Cx) (target:Expr) (t:TG):Prop :=
 ∀ (pins:List (Addr×Obj)) (s:Shared) (σ:St) (H:Hp) (v:V) (u:Value) (Q:St->Hp->Prop),Inv X pins σ H s->RelV v u->t v σ H Q ->
  wpAny (model X.prog X.w) X.A (assign target X.env u) (fun _ s'=>∃ σ' H',Inv X pins σ' H' s'/\Q σ' H') X.xe s
def PGs (X:Cx) (ts:List Expr) (t:TGs):Prop :=
 ∀ (pins:List (Addr×Obj)) (s:Shared) (σ:St) (H:Hp) (vs:List V) (us:List Value) (Q:St->Hp->Prop),Inv X pins σ H s->Vals vs us->t vs σ H Q ->
  wpAny (model X.prog X.w) X.A (assignInOrder ((assignEach ts X.env).map (·.2)) us) (fun _ s'=>∃ σ' H',Inv X pins σ' H' s'/\Q σ' H') X.xe s
abbrev TSet:=V->V->V->Hp->(Hp->Prop)->Prop
def PSet (X:Cx) (t:TSet):Prop :=
 ∀ (pins:List (Addr×Obj)) (s:Shared) (σ:St) (H:Hp) (o i v:V) (ov iv u:Value) (Q:Hp->Prop),Inv X pins σ H s->RelV o ov->RelV i iv->RelV v u->t o i v H Q ->
  wpAny (model X.prog X.w) X.A (setItem ov iv u) (fun _ s'=>∃ H',Inv X pins σ H' s'/\Q H') X.xe s
section
variable {X:Cx} {pos:Pos}
def ZaI (i:Nat):TG:=fun v σ H Q=>Q (σ.set i (some v)) H
theorem ZaA {i:Nat} {x:Str} (hN:X.N.Nodup) (hi:X.N[i]?=some x) (hx:Loc X.env.scope x) (hf:X.fn x=true\/X.env.scope.names.lookup x=some .local:=by first|exact .inl rfl|exact .inr rfl|assumption):PG X (.Name x pos) (ZaI i):=by
 intro pins s σ H v u Q I r h
 exact wpAny_assign_Name (ZhY I hN hi hx r (fun s' I'=>⟨_,H,I',h⟩) hf)
def gNil:TGs:=fun vs σ H Q=>vs=[]/\Q σ H
def ZcP (t:TG) (u:TGs):TGs:=fun vs σ H Q=>∃ v r,vs=v::r/\t v σ H fun σ' H'=>u r σ' H' Q
theorem Zb5:PGs X [] gNil:=by
 intro pins s σ H vs us Q I r h
 obtain ⟨e,h⟩:=h
 subst e
 cases r
 exact assignInOrder_nil ⟨σ,H,I,h⟩
theorem ZaF {e:Expr} {es:List Expr} {t:TG} {u:TGs} (h1:PG X e t) (h2:PGs X es u)
  (hs:(assignEach (e::es) X.env).map (·.2)=assign e X.env::(assignEach es X.env).map (·.2):=by rfl):PGs X (e::es) (ZcP t u):=by
 intro pins s σ H vs us Q I r h
 obtain ⟨v,vr,e1,h⟩:=h
 subst e1
 cases r with
 | cons r rr =>
  rw[hs]
  refine assignInOrder_cons (thn (h1 pins s σ H _ _ _ I r h) fun _ s1 ⟨σ1,H1,I1,q1⟩=>?_)
  exact h2 pins s1 σ1 H1 _ _ Q I1 rr q1
def gTup (K:W.Frag) (n:Nat) (t:TGs):TG:=fun v σ H Q=>∃ a xs,v=.ref a/\SqT K H a xs/\xs.length=n/\t xs σ H Q
theorem pg_tup {es:List Expr} {k:Nat} {t:TGs} {n:Nat} (hc:X.calm=true) (h:PGs X es t)
  (hn:(assignEach es X.env).length=n:=by rfl) (hst:(assignEach es X.env).findIdx? (·.1)=none:=by rfl):PG X (.Tuple es k pos) (gTup X.K n t):=by
 intro pins s σ H v u Q I r hw
 obtain ⟨a,xs,e1,hq,hl,hw⟩:=hw
 subst e1
 cases r
 obtain ⟨its,rv,ht,hz⟩:=I.tuple hq
 refine assign_Tuple_tuple (I.ok.hd hc) ht (by simp[hn,<- hl,rv.length]) hst fun h' hx=>?_
 have I1:Inv X pins σ H { s with heap:=h' }:=I.kept (t':=s.toks) fun b o e=>hx b o (Nat.ne_of_lt (Heap.lt_size e)) e
 exact h pins _ σ H xs _ Q I1 (by simpa using rv) hw
def gSub (to ti:TE) (t:TSet):TG:=fun v σ H Q=>to σ H fun o H1=>ti σ H1 fun i H2=>t o i v H2 fun H3=>Q σ H3
theorem Zbq {o i:Expr} {to ti:TE} {t:TSet} (ho:PE X o to) (hi:PE X i ti) (hs:PSet X t)
  (ha:∀ v,assign (.Subscript o i pos) X.env v=(do
   let ov <- holding [v] (eval o X.env)
   let iv <- holding [v,ov] (eval i X.env)
   standAt pos
   holding [v,ov,iv] (setItem ov iv v)
   release [v,ov,iv] []):=by intro _;rfl):PG X (.Subscript o i pos) (gSub to ti t):=by
 intro pins s σ H v u Q I r h
 rw[ha]
 refine wpAny_bind (wpAny_holding (thn (ho pins s σ H _ I h) fun ov s1 ⟨x,H1,I1,r1,q1⟩=>?_))
 refine wpAny_bind (wpAny_holding (thn (hi pins s1 σ H1 _ I1 q1) fun iv s2 ⟨y,H2,I2,r2,q2⟩=>?_))
 refine wpAny_bind (wpAny_standAt (wpAny_bind (wpAny_holding (thn (hs pins s2 σ H2 x y v ov iv u _ I2 r1 r2 r q2) fun _ s3 ⟨H3,I3,q3⟩=>?_))))
 exact wpAny_release ⟨σ,H3,I3,q3⟩
def tAsg (te:TE) (g:TG):TS:=fun D σ H=>te σ H fun x H1=>g x σ H1 D.nx
theorem Za3 {tg e:Expr} {te:TE} {g:TG} (he:PE X e te) (hg:PG X tg g) (hs:swapsWithSole [tg] e pos.line X.env=pure false:=by rfl) (hw:swappedStores [tg] e X.env=pure none:=by rfl)
  (h1:(assignEach [tg] X.env).map (·.2)=[assign tg X.env]:=by rfl):PS X (.Assign [tg] e pos) (tAsg te g):=by
 intro pins s σ H D I h
 refine wpAny_Assign_stores (thn (he pins s σ H _ I h) fun v s1 ⟨x,H1,I1,r1,q1⟩=>?_) hs hw
 rw[h1]
 exact thn (hg pins s1 σ H1 x v _ I1 r1 q1) fun _ s2 q=>q
theorem ZcS {i:Nat} {x:Str} {e:Expr} {te:TE} {pos':Pos} (hN:X.N.Nodup) (hi:X.N[i]?=some x) (hx:Loc X.env.scope x) (he:PE X e te) (hs:swapsWith e (some (.Name x pos')) pos.line X.env=pure false:=by rfl) (hf:X.fn x=true\/X.env.scope.names.lookup x=some .local:=by first|exact .inl rfl|exact .inr rfl|assumption) :
  PS X (.Assign [.Name x pos'] e pos) (tAsg te (ZaI i)):=by
 intro pins s σ H D I h
 refine wpAny_Assign_Name (thn (he pins s σ H _ I h) fun v s1 ⟨y,H1,I1,r1,q1⟩=>?_) hs
 exact ZhY I1 hN hi hx r1 (fun s2 I2=>⟨_,H1,I2,q1⟩) hf
end
section
variable {X:Cx} {pos:Pos}
def Zfn (c:TT) (tb:TS):TS:=fun D σ H=>∃ W:Nat->St->Hp->Prop,(∃ m,W m σ H)/\∀ m σ H,W m σ H ->
 c σ H fun b H1=>if b=true then ∃ N:St->Hp->Prop,(∀ σ' H',N σ' H'->∃ m',m' < m/\W m' σ' H')/\tb { D with nx:=N,ct:=N,bk:=D.nx } σ H1 else D.nx σ H1
theorem Zeh {c:Expr} {body:List Stmt} {tc:TT} {tb:TS} (hp:PassesOwn (model X.prog X.w) X.A X.env X.xe) (hc:PT X c tc) (hb:PSs X body tb):PS X (.While c body [] pos) (Zfn tc tb):=by
 intro pins s σ H D I h
 obtain ⟨W,⟨m0,w0⟩,turn⟩:=h
 refine wpAny_While (codeAny_whileLoop (fun n s'=>∃ σ' H',Inv X pins σ' H' s'/\W n σ' H') ?_ m0 ⟨σ,H,I,w0⟩)
 rintro n s1 ⟨σ1,H1,I1,w1⟩
 refine wpAny_passesOwn hp (thn (hc pins s1 σ1 H1 _ I1 (turn n σ1 H1 w1)) fun b s2 ⟨H2,I2,q2⟩=>?_)
 cases b with
 | true =>
  obtain ⟨N,hN,q2⟩:=q2
  rw[if_pos rfl]
  refine wpAny_passesOwn hp (thn (hb pins s2 σ1 H2 _ I2 q2) fun f s3 q3=>?_)
  cases f with
  | next =>
   obtain ⟨σ3,H3,I3,n3⟩:=q3
   obtain ⟨m',hm,w3⟩:=hN σ3 H3 n3
   exact ⟨m',hm,σ3,H3,I3,w3⟩
  | cont =>
   obtain ⟨σ3,H3,I3,n3⟩:=q3
   obtain ⟨m',hm,w3⟩:=hN σ3 H3 n3
   exact ⟨m',hm,σ3,H3,I3,w3⟩
  | brk=>exact q3
  | ret v=>exact q3
 | false =>
  rw[if_neg Bool.false_ne_true]
  exact wpAny_execs_nil ⟨σ1,H2,I2,q2⟩
end
structure It where
 go:Nat->Hp->Prop
 yld:Nat->Hp->V->Hp->Prop
 stop:Nat->Hp->Prop
def FpOk (X:Cx) (pins:List (Addr×Obj)) (H:Hp) (b:Addr):Prop :=
 H b=none/\b≠X.env.locals/\b∉X.fs/\(b∈X.ex\/X.s₀.heap.objs.size<=b)/\(∀ x c,X.env.cells.lookup x=some c->c≠b)/\∀ p∈X.pn++pins,p.1≠b
theorem Inv.fpOk {X:Cx} {pins:List (Addr×Obj)} {σ:St} {H H':Hp} {s:Shared} {b:Addr} (I:Inv X pins σ H s) (hb:s.heap.objs.size<=b) (hn:H' b=none):FpOk X pins H' b:=by
 refine ⟨hn,Nat.ne_of_gt (Nat.lt_of_lt_of_le I.lt hb),I.nofs hb,.inr (Nat.le_trans I.sz hb),fun x c e z=>?_,fun p hp z=>?_⟩
 ·obtain ⟨v,q⟩:=I.cell x c e
  exact absurd (Nat.lt_of_lt_of_le q.lt (by rw[z];exact hb)) (Nat.lt_irrefl _)
 ·exact absurd (Nat.lt_of_lt_of_le (Heap.lt_size (I.pin p hp).1) (by rw[z];exact hb)) (Nat.lt_irrefl _)
structure Turn (P:Program) (w:World) (K:W.Frag) (tg:Expr) (J:It) (fp:List Addr) (it:Addr) (tn:Nat->Heap->Prop):Prop where
 mem:it∈fp
 obj:∀ i h,tn i h->∀ b∈fp,∃ o,h.get? b=some o/\∀ v,o.data≠.cell v
 keep:∀ i h h',tn i h->(∀ b∈fp,∀ o,h.get? b=some o->h'.get? b=some o)->tn i h'
 item:∀ (X:Cx),X.prog=P->X.w=w->X.K=K->X.calm=true->∀ (i:Nat) (pins:List (Addr×Obj)) (s:Shared) (σ:St) (H:Hp) (E:Value->Shared->Prop),Inv X pins σ H s->(∀ b∈fp,FpOk X pins H b)->tn i s.heap->J.go i H ->
  wpAny (model P w) X.A (pyNext (.ref it)) (fun r s1=>∃ u,r=some u /\
   wpAny (model P w) X.A (letOwnedTupleGo tg (.ref it) u) (fun _ s2=>∃ x H',Inv X pins σ H' s2/\RelV x u/\J.yld i H x H'/\tn (i+1) s2.heap/\∀ b∈fp,H' b=none) E s1) E s
 done:∀ (X:Cx),X.prog=P->X.w=w->X.K=K->X.calm=true->∀ (i:Nat) (pins:List (Addr×Obj)) (s:Shared) (σ:St) (H:Hp) (E:Value->Shared->Prop),Inv X pins σ H s->(∀ b∈fp,FpOk X pins H b)->tn i s.heap->J.stop i H ->
  wpAny (model P w) X.A (pyNext (.ref it)) (fun r s1=>r=none/\Inv X pins σ H s1) E s
 self:∀ (A:Around) (i:Nat) (s:Shared) (Q:Value->Shared->Prop) (E:Value->Shared->Prop),tn i s.heap->Q (.ref it) s->wpAny (model P w) A (pyIter (.ref it)) Q E s
abbrev TI:=St->Hp->(It->Hp->Prop)->Prop
def PIE (X:Cx) (pins:List (Addr×Obj)) (σ:St) (tg:Expr) (R:It->Hp->Prop) (itv:Value) (s2:Shared):Prop :=
 ∃ (it:Addr) (fp:List Addr) (tn:Nat->Heap->Prop) (J:It) (H':Hp),itv=.ref it/\Inv X pins σ H' s2/\Turn X.prog X.w X.K tg J fp it tn/\tn 0 s2.heap/\(∀ b∈fp,FpOk X pins H' b)/\R J H'
def PI (X:Cx) (tg iter:Expr) (wi:TI):Prop :=
 ∀ (pins:List (Addr×Obj)) (s:Shared) (σ:St) (H:Hp) (R:It->Hp->Prop),Inv X pins σ H s->wi σ H R ->
  wpAny (model X.prog X.w) X.A (eval iter X.env) (fun v s1=>wpAny (model X.prog X.w) X.A (pyIter v) (PIE X pins σ tg R) X.xe s1) X.xe s
theorem ZmB {M : Model} {A : Around} {E : Value -> Shared -> Prop} {s : Shared} {tg : Expr} {it : Addr} {u : Value} {o : Obj} {n : String} {vs : Array Value} {Q : Unit -> Shared -> Prop} (ho : s.heap.get? it = some o) (hc : o.cls = .type n) (hd : o.data = .fields vs)
    (hn : ["enumerate", "zip", "dict_itemiterator", "dict_reverseitemiterator", "odict_iterator", "itertools.zip_longest", "itertools.pairwise"].contains n = false) (hQ : Q () s) : wpAny M A (letOwnedTupleGo tg (.ref it) u) Q E s := by
  unfold letOwnedTupleGo
  cases tg <;> first
    | exact wpAny_pure hQ
    | (cases u <;> first
        | exact wpAny_pure hQ
        | (refine wpAny_bind (wpAny_load ho ?_)
           rw[hc,hd]
           show wpAny M A (if (["enumerate","zip","dict_itemiterator","dict_reverseitemiterator","odict_iterator","itertools.zip_longest","itertools.pairwise"].contains n && vs[0]? == some (rawInt _))=true then _ else _) Q E s
           rw[if_neg (by intro h;rw[hn,Bool.false_and] at h;cases h)]
           exact wpAny_pure hQ))
def Itl (K:W.Frag) (a:Addr):It :=
 ⟨fun i H=>∃ xs x,SqL K H a xs/\xs[i]?=some x,fun i H x H'=>H'=H/\∀ xs,SqL K H a xs->xs[i]?=some x,fun i H=>∃ xs,SqL K H a xs/\xs.length<=i⟩
def Itt (K:W.Frag) (a:Addr):It :=
 ⟨fun i H=>∃ xs x,SqT K H a xs/\xs[i]?=some x,fun i H x H'=>H'=H/\∀ xs,SqT K H a xs->xs[i]?=some x,fun i H=>∃ xs,SqT K H a xs/\xs.length<=i⟩
def Itr (lo:Int) (n:Nat):It:=⟨fun i _=>i < n,fun i H x H'=>H'=H/\x=.int (lo+i),fun i _=>n<=i⟩
theorem Zi0 {P:Program} {w:World} {K:W.Frag} {tg:Expr} (a it:Addr):Turn P w K tg (Itl K a) [it] it (fun i h=>h.IsListIter it a i) where
 mem:=by simp
 obj:=fun i h st b hb=>by
  have e:b=it:=by simpa using hb
  subst e
  obtain ⟨o,e,c,d⟩:=st
  exact ⟨o,e,fun v z=>by rw[d] at z;cases z⟩
 keep:=fun i h h' st k=>st.at fun o e=>k it (by simp) o e
 item:=by
  intro X hP hw hK hc i pins s σ H E I hf st hg
  subst hP hw hK
  obtain ⟨xs,x,hq,hx⟩:=hg
  obtain ⟨its,rv,p,hz⟩:=I.list hq
  obtain ⟨u,hu,ru⟩:=rv.get hx
  obtain ⟨f0,f1,f2,f3,f4,f5⟩:=hf it (by simp)
  refine wpAny_pyNext_list_item st p.isList (x:=u) (by simpa using hu) fun h' st' sb=>?_
  have I1:Inv X pins σ H { s with heap:=h' }:=I.turned (t':=s.toks) (fun b o hb e=>(sb.2 b hb).trans e) f0 f1 f3 f4 f5
  obtain ⟨o,e,c,d⟩:=id st'
  exact ⟨u,rfl,ZmB (s:={ s with heap:=h' }) e c d (by decide) ⟨x,H,I1,ru,⟨rfl,fun ys hy=>by rw[I.list_inj hy hq];exact hx⟩,st',fun b hb=>(hf b hb).1⟩⟩
 done:=by
  intro X hP hw hK hc i pins s σ H E I hf st hg
  subst hP hw hK
  obtain ⟨xs,hq,hx⟩:=hg
  obtain ⟨its,rv,p,hz⟩:=I.list hq
  obtain ⟨f0,f1,f2,f3,f4,f5⟩:=hf it (by simp)
  have hl:=rv.length
  exact wpAny_pyNext_list_end (I.ok.hd hc) st p.isList (by simp;lia) fun h' eb=>⟨rfl,I.turned (t':=s.toks) (fun b o hb e=>eb b o hb e) f0 f1 f3 f4 f5⟩
 self:=fun _ _ _ _ _ st h=>wpAny_pyIter_listiter st h
theorem Ziv {P:Program} {w:World} {K:W.Frag} {tg:Expr} (a it:Addr):Turn P w K tg (Itt K a) [it] it (fun i h=>h.IsTupleIter it a i) where
 mem:=by simp
 obj:=fun i h st b hb=>by
  have e:b=it:=by simpa using hb
  subst e
  obtain ⟨o,e,c,d⟩:=st
  exact ⟨o,e,fun v z=>by rw[d] at z;cases z⟩
 keep:=fun i h h' st k=>st.at fun o e=>k it (by simp) o e
 item:=by
  intro X hP hw hK hc i pins s σ H E I hf st hg
  subst hP hw hK
  obtain ⟨xs,x,hq,hx⟩:=hg
  obtain ⟨its,rv,p,hz⟩:=I.tuple hq
  obtain ⟨u,hu,ru⟩:=rv.get hx
  obtain ⟨f0,f1,f2,f3,f4,f5⟩:=hf it (by simp)
  refine wpAny_pyNext_tuple_item st (show s.heap.IsTuple a its.toArray from p) (x:=u) (by simpa using hu) fun h' st' sb=>?_
  have I1:Inv X pins σ H { s with heap:=h' }:=I.turned (t':=s.toks) (fun b o hb e=>(sb.2 b hb).trans e) f0 f1 f3 f4 f5
  obtain ⟨o,e,c,d⟩:=id st'
  exact ⟨u,rfl,ZmB (s:={ s with heap:=h' }) e c d (by decide) ⟨x,H,I1,ru,⟨rfl,fun ys hy=>by rw[I.tuple_inj hy hq];exact hx⟩,st',fun b hb=>(hf b hb).1⟩⟩
 done:=by
  intro X hP hw hK hc i pins s σ H E I hf st hg
  subst hP hw hK
  obtain ⟨xs,hq,hx⟩:=hg
  obtain ⟨its,rv,p,hz⟩:=I.tuple hq
  obtain ⟨f0,f1,f2,f3,f4,f5⟩:=hf it (by simp)
  have hl:=rv.length
  exact wpAny_pyNext_tuple_end (I.ok.hd hc) st (show s.heap.IsTuple a its.toArray from p) (by simp;lia) fun h' eb=>⟨rfl,I.turned (t':=s.toks) (fun b o hb e=>eb b o hb e) f0 f1 f3 f4 f5⟩
 self:=fun _ _ _ _ _ st h=>wpAny_pyIter_tupleiter st h
theorem Ziw {P:Program} {w:World} {K:W.Frag} {tg:Expr} (it:Addr) (lo:Int) (n:Nat):Turn P w K tg (Itr lo n) [it] it (fun i h=>IsRangeIter h it (lo+(i:Nat) * 1) ((n:Int) - (i:Nat)) 1) where
 mem:=by simp
 obj:=fun i h st b hb=>by
  have e:b=it:=by simpa using hb
  subst e
  exact ⟨_,st,fun v z=>by
   have z':Data.fields _=Data.cell v:=z
   cases z'⟩
 keep:=fun i h h' st k=>k it (by simp) _ st
 item:=by
  intro X hP hw hK hc i pins s σ H E I hf st hg
  subst hP hw hK
  obtain ⟨f0,f1,f2,f3,f4,f5⟩:=hf it (by simp)
  have W:=Walks.range (prog:=X.prog) (w:=X.w) (I.ok.hd hc) it lo 1 n
  refine W.item i s _ _ hg st fun v h' tk hv st' kk=>?_
  obtain ⟨t,rfl⟩:=hv
  have I1:Inv X pins σ H { s with heap:=h',toks:=tk }:=I.turned (fun b o hb e=>kk b o (by simpa using hb) e) f0 f1 f3 f4 f5
  refine ⟨_,rfl,ZmB (s:={ s with heap:=h',toks:=tk }) (n:="range_iterator") st' rfl rfl (by decide) ⟨.int (lo+i),H,I1,⟨t,?_⟩,⟨rfl,rfl⟩,st',fun b hb=>(hf b hb).1⟩⟩
  rw[Int.mul_one]
 done:=by
  intro X hP hw hK hc i pins s σ H E I hf st hg
  subst hP hw hK
  obtain ⟨f0,f1,f2,f3,f4,f5⟩:=hf it (by simp)
  exact wpAny_pyNext_range_end (I.ok.hd hc) st (by have:n<=i:=hg;lia) fun h' eb=>⟨rfl,I.turned (t':=s.toks) (fun b o hb e=>eb b o hb e) f0 f1 f3 f4 f5⟩
 self:=fun _ _ _ _ _ st h=>wpAny_pyIter_rangeiter st h
end L2
namespace L2
open PySem PySem.Spec PyProof.Rows
section
variable {X:Cx} {tg:Expr}
def Zmz (K:W.Frag) (tl:TE):TI:=fun σ H R=>tl σ H fun x H1=>∃ a,x=.ref a/\(∃ xs,SqL K H1 a xs)/\R (Itl K a) H1
def iTup (K:W.Frag) (tl:TE):TI:=fun σ H R=>tl σ H fun x H1=>∃ a,x=.ref a/\(∃ xs,SqT K H1 a xs)/\R (Itt K a) H1
theorem Zl9 {l:Expr} {tl:TE} (hl:PE X l tl):PI X tg l (Zmz X.K tl):=by
 intro pins s σ H R I h
 refine thn (hl pins s σ H _ I h) fun v s1 ⟨x,H1,I1,r1,q1⟩=>?_
 obtain ⟨a,e,⟨xs,hq⟩,q⟩:=q1
 subst e
 cases r1
 obtain ⟨its,rv,p,hz⟩:=I1.list hq
 refine wpAny_pyIter_list p.isList ?_
 refine ⟨s1.heap.objs.size,[s1.heap.objs.size],_,_,H1,rfl,I1.kept (t':=s1.toks) fun b o e=>Heap.get?_push_of_some _ e,Zi0 a _,⟨_,Heap.get?_push_size _ rfl,rfl,rfl⟩,fun b hb=>?_,q⟩
 have e:b=s1.heap.objs.size:=by simpa using hb
 subst e
 exact I1.fpOk (Nat.le_refl _) (I1.hok.fresh (Nat.le_refl _))
theorem pi_tup {l:Expr} {tl:TE} (hl:PE X l tl):PI X tg l (iTup X.K tl):=by
 intro pins s σ H R I h
 refine thn (hl pins s σ H _ I h) fun v s1 ⟨x,H1,I1,r1,q1⟩=>?_
 obtain ⟨a,e,⟨xs,hq⟩,q⟩:=q1
 subst e
 cases r1
 obtain ⟨its,rv,p,hz⟩:=I1.tuple hq
 refine wpAny_pyIter_tuple (show s1.heap.IsTuple a its.toArray from p) ?_
 refine ⟨s1.heap.objs.size,[s1.heap.objs.size],_,_,H1,rfl,I1.kept (t':=s1.toks) fun b o e=>Heap.get?_push_of_some _ e,Ziv a _,⟨_,Heap.get?_push_size _ rfl,rfl,rfl⟩,fun b hb=>?_,q⟩
 have e:b=s1.heap.objs.size:=by simpa using hb
 subst e
 exact I1.fpOk (Nat.le_refl _) (I1.hok.fresh (Nat.le_refl _))
theorem ZkB {pins:List (Addr×Obj)} {σ:St} {H:Hp} {s:Shared} {R:It->Hp->Prop} {E:Value->Shared->Prop} {lo hi:Int} {t u v:Tok} {tk:Nat} (I:Inv X pins σ H s) (h1:-(2 ^ 62)<=lo) (h2:lo < 2 ^ 62) (h3:-(2 ^ 62)<=hi) (h4:hi < 2 ^ 62)
  (q:R (Itr lo (hi - lo).toNat) H):wpAny (model X.prog X.w) X.A (pyIter (.ref s.heap.objs.size)) (PIE X pins σ tg R) E { s with heap:=s.heap.push { cls:=.type "range",data:=.fields #[.int lo t,.int hi u,.int 1 v] },toks:=tk }:=by
 refine wpAny_pyIter_range (IsRange.new ..) (small_one h1 h2 h3 h4) ?_
 have I1:Inv X pins σ H { s with heap:=s.heap.push { cls:=.type "range",data:=.fields #[.int lo t,.int hi u,.int 1 v] },toks:=tk }:=I.kept fun b o e=>Heap.get?_push_of_some _ e
 refine ⟨(s.heap.push { cls:=.type "range",data:=.fields #[.int lo t,.int hi u,.int 1 v] }).objs.size,[(s.heap.push { cls:=.type "range",data:=.fields #[.int lo t,.int hi u,.int 1 v] }).objs.size],_,_,H,rfl,
  I1.kept (t':=tk) fun b o e=>Heap.get?_push_of_some _ e,Ziw _ lo (hi - lo).toNat,?_,fun b hb=>?_,q⟩
 ·have e1:lo+((0:Nat):Int) * 1=lo:=by simp
  have e2:(((hi - lo).toNat:Nat):Int) - ((0:Nat):Int)=Builtin.Range.rangeSize lo hi 1:=by rw[rangeSize_one];split <;> lia
  show IsRangeIter _ _ (lo+((0:Nat):Int) * 1) ((((hi - lo).toNat:Nat):Int) - ((0:Nat):Int)) 1
  rw[e1,e2]
  exact Heap.get?_push_size _ rfl
 ·have e:b=(s.heap.push { cls:=.type "range",data:=.fields #[.int lo t,.int hi u,.int 1 v] }).objs.size:=by simpa using hb
  subst e
  exact I1.fpOk (Nat.le_refl _) (I1.hok.fresh (Nat.le_refl _))
def iRng1 (ta:TA):TI:=fun σ H R=>ta σ H fun vs H1=>∃ j:Int,vs=[.int j]/\-(2 ^ 62)<=j/\j < 2 ^ 62/\R (Itr 0 j.toNat) H1
theorem Zdo {a:Expr} {ta:TA} {p pos:Pos} (hg:Gl X "range") (hm:X.mg "range"=none) (ha:PA X [a] ta) (hs:starEach [a] X.env=[(false,eval a X.env)]:=by rfl):PI X tg (.Call (.Name "range" p) [a] [] pos) (iRng1 ta):=by
 intro pins s σ H R I h
 refine Call_ (Zic I hg hm boot_range (PyProof.Rows.callWith_type1 (thn (ha pos pins s σ H _ I h) fun us s1 ⟨vs,H1,I1,r1,q1⟩=>?_) hs rfl))
 obtain ⟨j,e,q1,q2,q⟩:=q1
 subst e
 cases r1 with
 | cons r rr =>
  cases rr
  obtain ⟨t,rfl⟩:=r
  exact call_range_1 (ZkB I1 (by lia) (by lia) q1 q2 (by simpa using q))
def tFor (wi:TI) (g:TG) (tb:TS):TS:=fun D σ H=>wi σ H fun J H1=>∃ W:Nat->Nat->St->Hp->Prop,(∃ m,W 0 m σ H1)/\∀ i m σ H,W i m σ H ->
 (J.stop i H/\D.nx σ H)\/(J.go i H/\∃ N:St->Hp->Prop,(∀ σ' H',N σ' H'->∃ m',m' < m/\W (i+1) m' σ' H')/\∀ x H',J.yld i H x H'->g x σ H' fun σ2 H2=>tb { D with nx:=N,ct:=N,bk:=D.nx } σ2 H2)
def Zcq (fp:List Addr) (h:Heap):List (Addr×Obj):=fp.filterMap fun b=>(h.get? b).map fun o=>(b,o)
theorem ZcT {fp:List Addr} {h:Heap} {b:Addr} {o:Obj} (hb:b∈fp) (e:h.get? b=some o):(b,o)∈Zcq fp h:=mem_filterMap.mpr ⟨b,hb,by rw[e];rfl⟩
theorem ZgB {fp:List Addr} {h:Heap} {p:Addr×Obj} (hp:p∈Zcq fp h):p.1∈fp/\h.get? p.1=some p.2:=by
 obtain ⟨b,hb,e⟩:=mem_filterMap.mp hp
 cases q:h.get? b with
 | none=>rw[q] at e;cases e
 | some o =>
  rw[q] at e
  have e':(b,o)=p:=Option.some.inj e
  subst e'
  exact ⟨hb,q⟩
theorem Inv.pinned {pins:List (Addr×Obj)} {σ:St} {H:Hp} {s:Shared} {fp:List Addr} (I:Inv X pins σ H s) (hf:∀ b∈fp,FpOk X pins H b) (ho:∀ b∈fp,∃ o,s.heap.get? b=some o/\∀ v,o.data≠.cell v):Inv X (pins++Zcq fp s.heap) σ H s :=
 I.pins_of fun p hp=>(mem_append.mp hp).elim (fun z=>I.pin p (mem_append_right _ z)) fun z=>by
  obtain ⟨hb,e⟩:=ZgB z
  obtain ⟨f0,f1,f2,_⟩:=hf p.1 hb
  obtain ⟨o,e',d⟩:=ho p.1 hb
  rw[e] at e';cases e'
  exact ⟨e,f0,f1,f2,d⟩
theorem Inv.unpinned {pins pl:List (Addr×Obj)} {σ:St} {H:Hp} {s:Shared} (I:Inv X (pins++pl) σ H s):Inv X pins σ H s:=I.pins_of fun p hp=>I.pin p (mem_append_right _ (mem_append_left _ hp))
theorem Zh4 {iter:Expr} {body:List Stmt} {wi:TI} {g:TG} {tb:TS} {pos:Pos} (hp:PassesOwn (model X.prog X.w) X.A X.env X.xe) (hc:X.calm=true) (hi:PI X tg iter wi) (hg:PG X tg g) (hb:PSs X body tb)
  (hs:∀ x,foldedSetIterable iter X.env x=pure x:=by intro _;rfl):PS X (.For tg iter body [] pos) (tFor wi g tb):=by
 intro pins s σ H D I h
 refine wpAny_For (thn (hi pins s σ H _ I h) fun v s1 h1=>thn h1 fun itv s2 h2=>?_) hs
 obtain ⟨it,fp,tn,J,H2,e,I2,T,st2,f2,W,⟨m0,w0⟩,turn⟩:=h2
 subst e
 have stat:∀ {H':Hp},(∀ b∈fp,H' b=none)->∀ b∈fp,FpOk X pins H' b:=fun hn b hb=>⟨hn b hb,(f2 b hb).2⟩
 refine codeAny_forLoop_any (fun n s'=>∃ i σ' H',Inv X pins σ' H' s'/\tn i s'.heap/\(∀ b∈fp,H' b=none)/\W i n σ' H') ?_ m0 ⟨0,σ,H2,I2,st2,fun b hb=>(f2 b hb).1,w0⟩
 rintro n s3 ⟨i,σ3,H3,I3,st3,fr3,w3⟩
 rcases turn i n σ3 H3 w3 with ⟨stop,qn⟩|⟨go,N,hN,step⟩
 ·refine wpAny_passesOwn hp (thn (T.done X rfl rfl rfl hc i pins s3 σ3 H3 X.xe I3 (stat fr3) st3 stop) fun r s4 ⟨hr,I4⟩=>?_)
  subst hr
  exact wpAny_execs_nil ⟨σ3,H3,I4,qn⟩
 ·refine wpAny_passesOwn hp (thn (T.item X rfl rfl rfl hc i pins s3 σ3 H3 X.xe I3 (stat fr3) st3 go) fun r s4 ⟨u,hr,h4⟩=>?_)
  subst hr
  refine wpAny_passesOwn hp (thn h4 fun _ s5 ⟨x,H5,I5,r5,y5,st5,fr5⟩=>?_)
  have I5':=I5.pinned (stat fr5) (T.obj _ _ st5)
  refine wpAny_passesOwn hp (thn (hg _ s5 σ3 H5 x u _ I5' r5 (step x H5 y5)) fun _ s6 ⟨σ6,H6,I6,q6⟩=>?_)
  refine wpAny_passesOwn hp (thn (hb _ s6 σ6 H6 _ I6 q6) fun f s7 q7=>?_)
  have again:∀ {σ7:St} {H7:Hp},Inv X (pins++Zcq fp s5.heap) σ7 H7 s7->N σ7 H7->∃ m,m < n/\∃ i σ' H',Inv X pins σ' H' s7/\tn i s7.heap/\(∀ b∈fp,H' b=none)/\W i m σ' H':=fun {σ7 H7} I7 n7=>by
   obtain ⟨m',hm,w7⟩:=hN σ7 H7 n7
   refine ⟨m',hm,i+1,σ7,H7,I7.unpinned,T.keep _ _ _ st5 fun b hb o e=>(I7.pin (b,o) (mem_append_right _ (mem_append_right _ (ZcT hb e)))).1,fun b hb=>?_,w7⟩
   obtain ⟨o,e,d⟩:=T.obj _ _ st5 b hb
   exact (I7.pin (b,o) (mem_append_right _ (mem_append_right _ (ZcT hb e)))).2.1
  cases f with
  | next=>obtain ⟨σ7,H7,I7,n7⟩:=q7;exact again I7 n7
  | cont=>obtain ⟨σ7,H7,I7,n7⟩:=q7;exact again I7 n7
  | brk=>obtain ⟨σ7,H7,I7,q7⟩:=q7;exact ⟨σ7,H7,I7.unpinned,q7⟩
  | ret v=>obtain ⟨x7,σ7,H7,I7,r7,q7⟩:=q7;exact ⟨x7,σ7,H7,I7.unpinned,r7,q7⟩
end
theorem Zik {K:W.Frag} {a:Addr} {xs:List V} {g:TG} {tb:TS} {D:Ends} {σ:St} {H:Hp} (Pv:Nat->St->Hp->Prop) (h0:Pv 0 σ H) (hl:∀ i σ H,i<=xs.length->Pv i σ H->SqL K H a xs)
  (hs:∀ i x σ H,xs[i]?=some x->Pv i σ H->g x σ H fun σ2 H2=>tb { D with nx:=Pv (i+1),ct:=Pv (i+1),bk:=D.nx } σ2 H2) (hd:∀ σ H,Pv xs.length σ H->D.nx σ H) :
  ∃ W:Nat->Nat->St->Hp->Prop,(∃ m,W 0 m σ H)/\∀ i m σ H,W i m σ H ->
   ((Itl K a).stop i H/\D.nx σ H)\/((Itl K a).go i H/\∃ N:St->Hp->Prop,(∀ σ' H',N σ' H'->∃ m',m' < m/\W (i+1) m' σ' H')/\∀ x H',(Itl K a).yld i H x H'->g x σ H' fun σ2 H2=>tb { D with nx:=N,ct:=N,bk:=D.nx } σ2 H2):=by
 refine ⟨fun i m σ H=>m=xs.length - i/\i<=xs.length/\Pv i σ H,⟨xs.length,by simp,Nat.zero_le _,h0⟩,?_⟩
 rintro i m σ H ⟨rfl,hi,p⟩
 have q:=hl i σ H hi p
 by_cases hlt:i < xs.length
 ·refine .inr ⟨⟨xs,xs[i],q,by simp[hlt]⟩,Pv (i+1),fun σ' H' p'=>⟨xs.length - (i+1),by lia,rfl,hlt,p'⟩,fun x H' y=>?_⟩
  obtain ⟨e,y⟩:=y
  subst e
  exact hs i x σ _ (y xs q) p
 ·have e:i=xs.length:=by lia
  subst e
  exact .inl ⟨⟨xs,q,Nat.le_refl _⟩,hd σ H p⟩
theorem ZjV {lo:Int} {n:Nat} {g:TG} {tb:TS} {D:Ends} {σ:St} {H:Hp} (Pv:Nat->St->Hp->Prop) (h0:Pv 0 σ H)
  (hs:∀ i σ H,i < n->Pv i σ H->g (.int (lo+i)) σ H fun σ2 H2=>tb { D with nx:=Pv (i+1),ct:=Pv (i+1),bk:=D.nx } σ2 H2) (hd:∀ σ H,Pv n σ H->D.nx σ H) :
  ∃ W:Nat->Nat->St->Hp->Prop,(∃ m,W 0 m σ H)/\∀ i m σ H,W i m σ H ->
   ((Itr lo n).stop i H/\D.nx σ H)\/((Itr lo n).go i H/\∃ N:St->Hp->Prop,(∀ σ' H',N σ' H'->∃ m',m' < m/\W (i+1) m' σ' H')/\∀ x H',(Itr lo n).yld i H x H'->g x σ H' fun σ2 H2=>tb { D with nx:=N,ct:=N,bk:=D.nx } σ2 H2):=by
 refine ⟨fun i m σ H=>m=n - i/\i<=n/\Pv i σ H,⟨n,by simp,Nat.zero_le _,h0⟩,?_⟩
 rintro i m σ H ⟨rfl,hi,p⟩
 by_cases hlt:i < n
 ·refine .inr ⟨hlt,Pv (i+1),fun σ' H' p'=>⟨n - (i+1),by lia,rfl,hlt,p'⟩,fun x H' y=>?_⟩
  obtain ⟨e,y⟩:=y
  subst e y
  exact hs i σ _ hlt p
 ·have e:i=n:=by lia
  subst e
  exact .inl ⟨Nat.le_refl _,hd σ H p⟩
end L2
namespace L2
open PySem PySem.Spec PyProof.Rows
abbrev R2:=V->V->Hp->VK->Prop
def OpR (X:Cx) (f:Value->Value->Sem Value) (r:R2):Prop :=
 ∀ (pins:List (Addr×Obj)) (s:Shared) (σ:St) (H:Hp) (x y:V) (v u:Value) (Q:VK),Inv X pins σ H s->RelV x v->RelV y u->r x y H Q ->
  wpAny (model X.prog X.w) X.A (f v u) (EP X pins σ Q) X.xe s
def UnR (X:Cx) (f:Value->Sem Value) (r:V->Hp->VK->Prop):Prop :=
 ∀ (pins:List (Addr×Obj)) (s:Shared) (σ:St) (H:Hp) (x:V) (v:Value) (Q:VK),Inv X pins σ H s->RelV x v->r x H Q ->
  wpAny (model X.prog X.w) X.A (f v) (EP X pins σ Q) X.xe s
def Zdg (X:Cx) (f:Value) (r:List V->Hp->VK->Prop):Prop :=
 ∀ (pins:List (Addr×Obj)) (s:Shared) (σ:St) (H:Hp) (xs:List V) (us:List Value) (Q:VK),Inv X pins σ H s->Vals xs us->r xs H Q ->
  wpAny (model X.prog X.w) X.A (call f us) (EP X pins σ Q) X.xe s
def TruR (X:Cx) (r:V->Hp->(Bool->Hp->Prop)->Prop):Prop :=
 ∀ (pins:List (Addr×Obj)) (s:Shared) (σ:St) (H:Hp) (x:V) (v:Value) (Q:Bool->Hp->Prop),Inv X pins σ H s->RelV x v->r x H Q ->
  wpAny (model X.prog X.w) X.A (truthy v) (TP X pins σ Q) X.xe s
def tOp (r:R2) (ta tb:TE):TE:=fun σ H Q=>ta σ H fun x H1=>tb σ H1 fun y H2=>r x y H2 Q
def tUn (r:V->Hp->VK->Prop) (ta:TE):TE:=fun σ H Q=>ta σ H fun x H1=>r x H1 Q
def rI (C:Int->Int->Prop) (g:Int->Int->V):R2:=fun x y H Q=>∃ i j,x=.int i/\y=.int j/\C i j/\Q (g i j) H
def rI0 (g:Int->Int->V):R2:=fun x y H Q=>∃ i j,x=.int i/\y=.int j/\Q (g i j) H
def rU (g:Int->V):V->Hp->VK->Prop:=fun x H Q=>∃ i,x=.int i/\Q (g i) H
section
variable {X:Cx} {a b c:Expr} {ta tb tc:TE} {pos:Pos}
theorem binT (ha:PE X a ta) (hb:PE X b tb) {pins:List (Addr×Obj)} {s:Shared} {σ:St} {H:Hp} {R:V->V->Hp->Prop} (I:Inv X pins σ H s)
  (h:ta σ H fun x H1=>tb σ H1 fun y H2=>R x y H2) {Q:Value->Shared->Prop} {f:Value->Value->Sem Value}
  (hf:∀ v u s2 x y H2,Inv X pins σ H2 s2->RelV x v->RelV y u->R x y H2->wpAny (model X.prog X.w) X.A (f v u) Q X.xe s2) :
  wpAny (model X.prog X.w) X.A (eval a X.env) (fun v s₁=>wpAny (model X.prog X.w) X.A (eval b X.env) (fun u s₂=>wpAny (model X.prog X.w) X.A (f v u) Q X.xe s₂) X.xe s₁) X.xe s:=by
 refine thn (ha pins s σ H _ I h) fun v s1 ⟨x,H1,I1,r1,q1⟩=>?_
 refine thn (hb pins s1 σ H1 _ I1 q1) fun u s2 ⟨y,H2,I2,r2,q2⟩=>?_
 exact hf v u s2 x y H2 I2 r1 r2 q2
theorem ZaN {op:Operator} {r:R2} (ho:OpR X (binaryOp op) r) (ha:PE X a ta) (hb:PE X b tb):PE X (.BinOp a op b pos) (tOp r ta tb):=by
 intro pins s σ H Q I h
 exact wpAny_BinOp (binT ha hb I h fun v u s2 x y H2 I2 rx ry q=>ho pins s2 σ H2 x y v u Q I2 rx ry q)
theorem Zcp {op:UnaryOp} {r:V->Hp->VK->Prop} (ho:UnR X (unaryOp op) r) (ha:PE X a ta):PE X (.UnaryOp op a pos) (tUn r ta):=by
 intro pins s σ H Q I h
 exact UnaryOp_ (thn (ha pins s σ H _ I h) fun v s1 ⟨x,H1,I1,r1,q1⟩=>ho pins s1 σ H1 x v Q I1 r1 q1)
theorem opI {f:Value->Value->Sem Value} {C:Int->Int->Prop} {g:Int->Int->Int}
  (rule:∀ (i j:Int) (t u:Tok) (s:Shared) (Q:Value->Shared->Prop) (E:Value->Shared->Prop),C i j->Q (.int (g i j) s.toks) { s with toks:=s.toks+1 }->wpAny (model X.prog X.w) X.A (f (.int i t) (.int j u)) Q E s) :
  OpR X f (rI C fun i j=>.int (g i j)):=by
 intro pins s σ H x y v u Q I rx ry h
 obtain ⟨i,j,rfl,rfl,hc,q⟩:=h
 obtain ⟨t,rfl⟩:=rx
 obtain ⟨t',rfl⟩:=ry
 exact rule i j t t' s _ _ hc ⟨.int (g i j),H,I.tok _,⟨_,rfl⟩,q⟩
theorem opI0 {f:Value->Value->Sem Value} {g:Int->Int->Int}
  (rule:∀ (i j:Int) (t u:Tok) (s:Shared) (Q:Value->Shared->Prop) (E:Value->Shared->Prop),Q (.int (g i j) s.toks) { s with toks:=s.toks+1 }->wpAny (model X.prog X.w) X.A (f (.int i t) (.int j u)) Q E s) :
  OpR X f (rI0 fun i j=>.int (g i j)):=by
 intro pins s σ H x y v u Q I rx ry h
 obtain ⟨i,j,rfl,rfl,q⟩:=h
 obtain ⟨t,rfl⟩:=rx
 obtain ⟨t',rfl⟩:=ry
 exact rule i j t t' s _ _ ⟨.int (g i j),H,I.tok _,⟨_,rfl⟩,q⟩
theorem opB0 {f:Value->Value->Sem Value} {g:Int->Int->Bool}
  (rule:∀ (i j:Int) (t u:Tok) (s:Shared) (Q:Value->Shared->Prop) (E:Value->Shared->Prop),Q (.bool (g i j)) s->wpAny (model X.prog X.w) X.A (f (.int i t) (.int j u)) Q E s) :
  OpR X f (rI0 fun i j=>.bl (g i j)):=by
 intro pins s σ H x y v u Q I rx ry h
 obtain ⟨i,j,rfl,rfl,q⟩:=h
 obtain ⟨t,rfl⟩:=rx
 obtain ⟨t',rfl⟩:=ry
 exact rule i j t t' s _ _ ⟨.bl (g i j),H,I,rfl,q⟩
def CPow (i j:Int):Prop:=0<=j/\j<=1000000/\i.natAbs < 2 ^ 64
def CMul (i j:Int):Prop:=(-(2 ^ 64) < i/\i < 2 ^ 64)\/(-(2 ^ 64) < j/\j < 2 ^ 64)
theorem CMul.ok {i j:Int} (h:CMul i j):IntMulOk i j:=by
 rcases h with ⟨h1,h2⟩|⟨h1,h2⟩
 ·exact .of_left (intBits_le_64 h1 h2)
 ·exact .of_right (intBits_le_64 h1 h2)
theorem Zbx:OpR X (binaryOp .Add) (rI0 fun i j=>.int (i+j)):=opI0 fun _ _ _ _ _ _ _ q=>add_int q
theorem Zej:OpR X (binaryOp .Sub) (rI0 fun i j=>.int (i - j)):=opI0 fun _ _ _ _ _ _ _ q=>sub_int q
theorem ZjB:OpR X (binaryOp .Mult) (rI CMul fun i j=>.int (i * j)):=opI fun _ _ _ _ _ _ _ hc q=>mul_int q hc.ok
theorem ZeF:OpR X (binaryOp .Mod) (rI (fun _ j=>0 < j) fun i j=>.int (i % j)):=opI fun i j _ _ _ _ _ hc q=>by
 have h1:(0:Int) < j:=hc
 exact mod_int' (by lia) (by rw[Int.fmod_eq_emod_of_nonneg i (by lia)];exact q)
theorem Zh8:OpR X (binaryOp .Pow) (rI CPow fun i j=>.int (i ^ j.toNat)):=opI fun _ _ _ _ _ _ _ hc q=>pow_int_small hc.1 hc.2.1 hc.2.2 q
theorem unI {f:Value->Sem Value} {g:Int->Int}
  (rule:∀ (i:Int) (t:Tok) (s:Shared) (Q:Value->Shared->Prop) (E:Value->Shared->Prop),Q (.int (g i) s.toks) { s with toks:=s.toks+1 }->wpAny (model X.prog X.w) X.A (f (.int i t)) Q E s) :
  UnR X f (rU fun i=>.int (g i)):=by
 intro pins s σ H x v Q I rx h
 obtain ⟨i,rfl,q⟩:=h
 obtain ⟨t,rfl⟩:=rx
 exact rule i t s _ _ ⟨.int (g i),H,I.tok _,⟨_,rfl⟩,q⟩
theorem ZbB:UnR X (unaryOp .USub) (rU fun i=>.int (-i)):=unI fun _ _ _ _ _ q=>neg_int q
end
def scal:V->V->Bool
 | .non,.non=>true|.non,.int _=>true|.int _,.non=>true|.non,.bl _=>true|.bl _,.non=>true|.non,.str _=>true|.str _,.non=>true
 | .int _,.int _=>true|.bl _,.bl _=>true|.str _,.str _=>true|.byt _,.byt _=>true
 | .int _,.str _=>true|.str _,.int _=>true|.bl _,.str _=>true|.str _,.bl _=>true
 | _,_=>false
def rEq:R2:=fun x y H Q=>scal x y=true/\Q (.bl (decide (x=y))) H
def rNe:R2:=fun x y H Q=>scal x y=true/\Q (.bl (!decide (x=y))) H
theorem Zf3 {i j:Int}:decide (V.int i=V.int j)=(i == j):=by
 rw[Bool.eq_iff_iff]
 simp
theorem ZlH {i j:Bool}:decide (V.bl i=V.bl j)=(i == j):=by
 rw[Bool.eq_iff_iff]
 simp
theorem ZhJ {i j:Str}:decide (V.str i=V.str j)=(i == j):=by
 rw[Bool.eq_iff_iff]
 simp
theorem ZjW {i j:Array UInt8}:decide (V.byt i=V.byt j)=(i.toList == j.toList):=by
 rw[Bool.eq_iff_iff]
 cases i
 cases j
 simp
section
variable {X:Cx} {a b c:Expr} {ta tb tc:TE} {pos:Pos}
theorem ZaV {pins:List (Addr×Obj)} {σ:St} {H:Hp} {s:Shared} {Q:VK} {k k':Bool} (I:Inv X pins σ H s) (q:Q (.bl k) H) (e:k=k'):EP X pins σ Q (.bool k') s:=by
 subst e
 exact ⟨.bl k,H,I,rfl,q⟩
theorem ZaX:OpR X (compareOp .Eq) rEq:=by
 intro pins s σ H x y v u Q I rx ry h
 obtain ⟨hs,q⟩:=h
 cases x with
 | non =>
  cases rx
  cases y with
  | non=>cases ry;exact PySem.EqNone.eq_none_none (ZaV I q (by simp))
  | bl j=>cases ry;exact PySem.EqNone.eq_none_bool (ZaV I q (by simp))
  | int j=>obtain ⟨t',rfl⟩:=ry;exact PySem.EqNone.eq_none_int (ZaV I q (by simp))
  | str j=>obtain ⟨t',rfl⟩:=ry;exact PySem.EqNone.eq_none_str (ZaV I q (by simp))
  | _=>exact absurd (show false=true from hs) Bool.false_ne_true
 | bl i =>
  cases rx
  cases y with
  | non=>cases ry;exact PySem.EqNone.eq_bool_none (ZaV I q (by simp))
  | bl j=>cases ry;exact eq_bool (ZaV I q ZlH)
  | str j=>obtain ⟨t',rfl⟩:=ry;exact PySem.EqMixed.eq_bool_str (ZaV I q (by simp))
  | _=>exact absurd (show false=true from hs) Bool.false_ne_true
 | int i =>
  obtain ⟨t,rfl⟩:=rx
  cases y with
  | non=>cases ry;exact PySem.EqNone.eq_int_none (ZaV I q (by simp))
  | int j=>obtain ⟨t',rfl⟩:=ry;exact eq_int (ZaV I q Zf3)
  | str j=>obtain ⟨t',rfl⟩:=ry;exact PySem.EqMixed.eq_int_str (ZaV I q (by simp))
  | _=>exact absurd (show false=true from hs) Bool.false_ne_true
 | str i =>
  obtain ⟨t,rfl⟩:=rx
  cases y with
  | non=>cases ry;exact PySem.EqNone.eq_str_none (ZaV I q (by simp))
  | bl j=>cases ry;exact PySem.EqMixed.eq_str_bool (ZaV I q (by simp))
  | int j=>obtain ⟨t',rfl⟩:=ry;exact PySem.EqMixed.eq_str_int (ZaV I q (by simp))
  | str j=>obtain ⟨t',rfl⟩:=ry;exact eq_str (ZaV I q ZhJ)
  | _=>exact absurd (show false=true from hs) Bool.false_ne_true
 | byt i =>
  obtain ⟨t,rfl⟩:=rx
  cases y with
  | byt j=>obtain ⟨t',rfl⟩:=ry;exact PySem.W.eq_bytes (ZaV I q ZjW)
  | _=>exact absurd (show false=true from hs) Bool.false_ne_true
 | _=>cases y <;> exact absurd (show false=true from hs) Bool.false_ne_true
theorem ZkK:OpR X (compareOp .NotEq) rNe:=by
 intro pins s σ H x y v u Q I rx ry h
 obtain ⟨hs,q⟩:=h
 cases x with
 | non =>
  cases rx
  cases y with
  | non=>cases ry;exact PySem.EqNone.ne_none_none (ZaV I q (by simp))
  | bl j=>cases ry;exact PySem.EqNone.ne_none_bool (ZaV I q (by simp))
  | int j=>obtain ⟨t',rfl⟩:=ry;exact PySem.EqNone.ne_none_int (ZaV I q (by simp))
  | str j=>obtain ⟨t',rfl⟩:=ry;exact PySem.EqNone.ne_none_str (ZaV I q (by simp))
  | _=>exact absurd (show false=true from hs) Bool.false_ne_true
 | bl i =>
  cases rx
  cases y with
  | non=>cases ry;exact PySem.EqNone.ne_bool_none (ZaV I q (by simp))
  | bl j=>cases ry;exact ne_bool (ZaV I q (congrArg not ZlH))
  | str j=>obtain ⟨t',rfl⟩:=ry;exact PySem.EqMixed.ne_bool_str (ZaV I q (by simp))
  | _=>exact absurd (show false=true from hs) Bool.false_ne_true
 | int i =>
  obtain ⟨t,rfl⟩:=rx
  cases y with
  | non=>cases ry;exact PySem.EqNone.ne_int_none (ZaV I q (by simp))
  | int j=>obtain ⟨t',rfl⟩:=ry;exact ne_int (ZaV I q (congrArg not Zf3))
  | str j=>obtain ⟨t',rfl⟩:=ry;exact PySem.EqMixed.ne_int_str (ZaV I q (by simp))
  | _=>exact absurd (show false=true from hs) Bool.false_ne_true
 | str i =>
  obtain ⟨t,rfl⟩:=rx
  cases y with
  | non=>cases ry;exact PySem.EqNone.ne_str_none (ZaV I q (by simp))
  | bl j=>cases ry;exact PySem.EqMixed.ne_str_bool (ZaV I q (by simp))
  | int j=>obtain ⟨t',rfl⟩:=ry;exact PySem.EqMixed.ne_str_int (ZaV I q (by simp))
  | str j=>obtain ⟨t',rfl⟩:=ry;exact ne_str (ZaV I q (congrArg not ZhJ))
  | _=>exact absurd (show false=true from hs) Bool.false_ne_true
 | byt i =>
  obtain ⟨t,rfl⟩:=rx
  cases y with
  | byt j=>obtain ⟨t',rfl⟩:=ry;exact PySem.W.ne_bytes (ZaV I q (congrArg not ZjW))
  | _=>exact absurd (show false=true from hs) Bool.false_ne_true
 | _=>cases y <;> exact absurd (show false=true from hs) Bool.false_ne_true
theorem ZhA:OpR X (compareOp .Lt) (rI0 fun i j=>.bl (decide (i < j))):=opB0 fun _ _ _ _ _ _ _ q=>lt_int q
theorem Zmk:OpR X (compareOp .LtE) (rI0 fun i j=>.bl (decide (i<=j))):=opB0 fun _ _ _ _ _ _ _ q=>le_int q
theorem Zmm:OpR X (compareOp .Gt) (rI0 fun i j=>.bl (decide (j < i))):=opB0 fun _ _ _ _ _ _ _ q=>gt_int q
theorem op_ge:OpR X (compareOp .GtE) (rI0 fun i j=>.bl (decide (j<=i))):=opB0 fun _ _ _ _ _ _ _ q=>ge_int q
theorem op_isN:OpR X (compareOp .Is) (fun x y H Q=>y=.non/\Q (.bl (decide (x=.non))) H):=by
 intro pins s σ H x y v u Q I rx ry h
 obtain ⟨rfl,q⟩:=h
 cases ry
 refine is_none_gen (ZaV I q ?_)
 cases x <;> first
  | (cases rx;rfl)
  | (obtain ⟨t,rfl⟩:=rx;rfl)
theorem Zmj:OpR X (compareOp .IsNot) (fun x y H Q=>y=.non/\Q (.bl (!decide (x=.non))) H):=by
 intro pins s σ H x y v u Q I rx ry h
 obtain ⟨rfl,q⟩:=h
 cases ry
 refine isnot_none_gen (ZaV I q ?_)
 cases x <;> first
  | (cases rx;rfl)
  | (obtain ⟨t,rfl⟩:=rx;rfl)
theorem Zau (b:Expr) {op:CmpOp} (h:op≠.In:=by decide) (h2:op≠.NotIn:=by decide):behindInMarks op b=false:=by
 have e1:(op == CmpOp.In)=false:=by cases op <;> first|rfl|exact absurd rfl h
 have e2:(op == CmpOp.NotIn)=false:=by cases op <;> first|rfl|exact absurd rfl h2
 cases b <;> simp[behindInMarks,e1,e2]
theorem ZcN {op:CmpOp} {r:R2} (ho:OpR X (compareOp op) r) (ha:PE X a ta) (hb:PE X b tb) (hm:behindInMarks op b=false):PE X (.Compare a [op] [b] pos) (tOp r ta tb):=by
 intro pins s σ H Q I h
 exact wpAny_Compare1 (binT ha hb I h fun v u s2 x y H2 I2 rx ry q=>ho pins s2 σ H2 x y v u Q I2 rx ry q) hm
def ZaW (t:TE):TT:=fun σ H Q=>t σ H fun x H'=>∃ k,x=.bl k/\Q k H'
theorem Zar {op:CmpOp} {r:R2} (ho:OpR X (compareOp op) r) (ha:PE X a ta) (hb:PE X b tb) (hm:behindInMarks op b=false):PT X (.Compare a [op] [b] pos) (ZaW (tOp r ta tb)):=by
 intro pins s σ H Q I h
 refine wpAny_isTrue_Compare1 (thn (ha pins s σ H _ I h) fun v s1 ⟨x,H1,I1,r1,q1⟩=>thn (hb pins s1 σ H1 _ I1 q1) fun u s2 ⟨y,H2,I2,r2,q2⟩ =>
  thn (ho pins s2 σ H2 x y v u _ I2 r1 r2 q2) fun c s3 ⟨z,H3,I3,r3,k,e,q3⟩=>?_) hm
 subst e
 cases r3
 exact wpAny_truthy_bool ⟨H3,I3,q3⟩
def TruV (K:W.Frag) (x:V) (H:Hp) (k:Bool):Prop :=
 match x with
 | .non=>k=false
 | .bl b=>k=b
 | .int i=>k=(i != 0)
 | .str y=>y.length<=sizeLine/\k=((y.length:Int) != 0)
 | .byt y=>y.size<=sizeLine/\k=((y.size:Int) != 0)
 | .ref p=>(∃ xs,SqL K H p xs/\k=!xs.isEmpty)\/(∃ xs,SqT K H p xs/\k=!xs.isEmpty)\/∃ kvs,H p=some (.dK kvs)/\k=!kvs.isEmpty
 | _=>False
theorem ZiH {κ:Type} {kvs:List (κ×V)} {vs:List (κ×Value)} (r:KV kvs vs):(!vs.isEmpty)=!kvs.isEmpty:=by
 cases r <;> rfl
theorem Zfy {xs:List V} {its:List Value} (r:Vals xs its):(!its.toArray.isEmpty)=!xs.isEmpty:=by
 cases r <;> simp
theorem ZgD:(sizeLine:Nat) < 2 ^ 63:=by rw[sizeLine_eq];decide
theorem tru_ok:TruR X (fun x H Q=>∃ k,TruV X.K x H k/\Q k H):=by
 intro pins s σ H x v Q I rx h
 obtain ⟨k,e,q⟩:=h
 have hl:=ZgD
 have hs:sizeLine=16777216:=sizeLine_eq
 cases x with
 | non =>
  cases rx
  have e':k=false:=e
  subst e'
  exact truthy_none ⟨H,I,q⟩
 | bl b =>
  cases rx
  have e':k=b:=e
  subst e'
  exact wpAny_truthy_bool ⟨H,I,q⟩
 | int i =>
  obtain ⟨t,rfl⟩:=rx
  have e':k=(i != 0):=e
  subst e'
  exact PySem.P.truthy_int ⟨H,I,q⟩
 | str y =>
  obtain ⟨t,rfl⟩:=rx
  obtain ⟨hy,e'⟩:y.length<=sizeLine/\k=((y.length:Int) != 0):=e
  subst e'
  exact PySem.P.truthy_str (by lia) ⟨H,I.tok _,q⟩
 | byt y =>
  obtain ⟨t,rfl⟩:=rx
  obtain ⟨hy,e'⟩:y.size<=sizeLine/\k=((y.size:Int) != 0):=e
  subst e'
  exact PySem.W.truthy_bytes (by lia) ⟨H,I.tok _,q⟩
 | ref p =>
  cases rx
  have e':(∃ xs,SqL X.K H p xs/\k=!xs.isEmpty)\/(∃ xs,SqT X.K H p xs/\k=!xs.isEmpty)\/∃ kvs,H p=some (.dK kvs)/\k=!kvs.isEmpty:=e
  rcases e' with ⟨xs,hx,e'⟩|⟨xs,hx,e'⟩|⟨kvs,hx,e'⟩
  ·subst e'
   obtain ⟨its,r,pl,hz⟩:=I.list hx
   have hlen:=r.length
   exact wpAny_truthy_list pl.isList (by simp only[size_toArray];lia) ⟨H,I.tok _,by rw[Zfy r];exact q⟩
  ·subst e'
   obtain ⟨its,r,pl,hz⟩:=I.tuple hx
   have hlen:=r.length
   exact truthy_tuple pl (by simp only[size_toArray];lia) ⟨H,I.tok _,by rw[Zfy r];exact q⟩
  ·subst e'
   obtain ⟨hz,hS,vs,r,m⟩:kvs.length<=sizeLine/\(p == sysModules)=false/\∃ vs,KV kvs vs/\s.heap.DictOf (Zbt X.prog X.w) p vs:=I.hok p _ hx
   have hlen:kvs.length=vs.length:=Paired.length r
   exact wpAny_truthy_dict hS m (by lia) ⟨H,I.tok _,by rw[ZiH r];exact q⟩
 | _=>exact (show False from e).elim
theorem Zhc {x:V} {us:List Value} (r:Vals [x] us):∃ u,us=[u]/\RelV x u:=by
 cases r with
 | cons r1 r2=>cases r2;exact ⟨_,rfl,r1⟩
theorem Zlb:Zdg X (.builtin "abs") (fun xs H Q=>∃ i,xs=[.int i]/\Q (.int (if i < 0 then -i else i)) H):=by
 intro pins s σ H xs us Q I r h
 obtain ⟨i,rfl,q⟩:=h
 obtain ⟨u,rfl,t,rfl⟩:=Zhc r
 exact call_abs_int fun u tk=>⟨.int (if i < 0 then -i else i),H,I.tok _,⟨_,rfl⟩,q⟩
theorem Zj7:Zdg X (.type "int") (fun xs H Q=>(∃ i,xs=[.int i]/\Q (.int i) H)\/∃ k,xs=[.bl k]/\Q (.int (if k then 1 else 0)) H):=by
 intro pins s σ H xs us Q I r h
 rcases h with ⟨i,rfl,q⟩|⟨k,rfl,q⟩
 ·obtain ⟨u,rfl,t,rfl⟩:=Zhc r
  exact call_int_int ⟨.int i,H,I,⟨_,rfl⟩,q⟩
 ·obtain ⟨u,rfl,r1⟩:=Zhc r
  cases r1
  exact call_int_bool ⟨.int (if k then 1 else 0),H,I.tok _,⟨_,rfl⟩,q⟩
def LenV (K:W.Frag) (x:V) (H:Hp) (n:Nat):Prop :=
 match x with
 | .str y=>y.length<=sizeLine/\n=y.length
 | .byt y=>y.size<=sizeLine/\n=y.size
 | .ref p=>(∃ xs,SqL K H p xs/\n=xs.length)\/∃ xs,SqT K H p xs/\n=xs.length
 | _=>False
theorem Zla:Zdg X (.builtin "len") (fun xs H Q=>∃ x n,xs=[x]/\LenV X.K x H n/\Q (.int n) H):=by
 intro pins s σ H xs us Q I r h
 obtain ⟨x,n,rfl,e,q⟩:=h
 obtain ⟨u,rfl,rx⟩:=Zhc r
 have hl:=ZgD
 have hs:sizeLine=16777216:=sizeLine_eq
 cases x with
 | str y =>
  obtain ⟨t,rfl⟩:=rx
  obtain ⟨hy,e'⟩:y.length<=sizeLine/\n=y.length:=e
  subst e'
  exact len_str (by lia) ⟨.int _,H,I.tok _,⟨_,rfl⟩,q⟩
 | byt y =>
  obtain ⟨t,rfl⟩:=rx
  obtain ⟨hy,e'⟩:y.size<=sizeLine/\n=y.size:=e
  subst e'
  exact PySem.W.len_bytes (by lia) ⟨.int _,H,I.tok _,⟨_,rfl⟩,q⟩
 | ref p =>
  cases rx
  have e':(∃ xs,SqL X.K H p xs/\n=xs.length)\/∃ xs,SqT X.K H p xs/\n=xs.length:=e
  rcases e' with ⟨xs,hx,e'⟩|⟨xs,hx,e'⟩
  ·subst e'
   obtain ⟨its,r',pl,hz⟩:=I.list hx
   have hlen:=r'.length
   exact Calls.call_len_list pl.isList (by simp only[size_toArray];lia) ⟨.int xs.length,H,I.tok _,⟨_,by simp only[size_toArray];rw[hlen]⟩,q⟩
  ·subst e'
   obtain ⟨its,r',pl,hz⟩:=I.tuple hx
   have hlen:=r'.length
   exact len_tuple pl (by simp only[size_toArray];lia) ⟨.int xs.length,H,I.tok _,⟨_,by simp only[size_toArray];rw[hlen]⟩,q⟩
 | _=>exact (show False from e).elim
end
end L2
namespace L2
open PySem PySem.Spec PyProof.Rows
structure ObjM (h:Heap) (x dx C:Addr) (mA:Str->Option Value):Prop where
 obj:h.get? x=some (PySem.W.instObj C dx)
 ns:h.Ns1 dx mA
 ne:dx≠x
theorem ZjE {h:Heap} {dx:Addr} {mA:Str->Option Value} (n:h.Ns1 dx mA):∃ od,h.get? dx=some od/\∀ name,PySem.W.lookIn name od=some (mA name):=by
 obtain ⟨o,es,ep,ho,hd,hk,_,hm⟩:=n
 refine ⟨o,ho,fun name=>?_⟩
 have e:=hm name
 unfold nsFind findBy at e
 rw[<-Array.find?_toList] at e
 unfold PySem.W.lookIn
 rw[hd]
 dsimp only
 split
 ·rename_i y q
  rw[q] at e
  exact congrArg some e
 ·rename_i q
  rw[q] at e
  have a:es.toList.any (·.refKey)=false:=by
   rw[any_eq_false]
   intro y hy
   obtain ⟨z,t,hkey⟩:=hk y (Array.mem_toList_iff.mp hy)
   simp[DictEntry.refKey,hkey]
  have a':¬ es.toList.any (·.refKey)=true:=by rw[a];exact Bool.false_ne_true
  rw[if_neg a']
  exact congrArg some e
theorem ObjM.look {h:Heap} {x dx C:Addr} {mA:Str->Option Value} (I:ObjM h x dx C mA):∃ od,PySem.W.InstAt h x (PySem.W.instObj C dx) C (some od)/\∀ name,PySem.W.lookIn name od=some (mA name) :=
 let ⟨od,ho,hl⟩:=ZjE I.ns
 ⟨od,⟨I.obj,rfl,rfl,ho⟩,hl⟩
section
variable {prog:Program} {w:World} {A:Around} {E:Value->Shared->Prop} {s:Shared} {K:W.Frag} {x dx C f:Addr} {mA:Str->Option Value} {name:Str} {v:Value}
theorem ZmF {expr:Bool} {Q:Value->Shared->Prop} (X:K.In s.heap) (I:ObjM s.heap x dx C mA) (hg:PySem.W.plainGet K C name=true) (hh:PySem.W.hasDictIn K C=true)
  (ha:PySem.W.findIn K (.ref C) name=some none) (hv:mA name=some v) (hv':PySem.W.handedIn v=true) (h:Q v { s with toks:=s.toks+1 }) :
  wpAny (model prog w) A (getAttr (.ref x) name expr) Q E s:=by
 obtain ⟨od,J,hl⟩:=I.look
 exact PySem.W.get_value X J (PySem.W.plainGet_of hg).1 (PySem.W.findObj_own hh ha rfl (by rw[hl,hv])) hv' h
theorem ZkX {pl:Sem Bool} {Q:Value×List Value->Shared->Prop} (X:K.In s.heap) (I:ObjM s.heap x dx C mA) (hg:PySem.W.plainGet K C name=true)
  (hf:PySem.W.findIn K (.ref C) name=some (some (.ref f))) (ht:PySem.W.isFn K (.ref f)=true) (hv:mA name=none) (h:Q (.ref f,[.ref x]) s) :
  wpAny (model prog w) A (getMethod (.ref x) name pl) Q E s:=by
 obtain ⟨od,J,hl⟩:=I.look
 exact PySem.W.method_fn X J (PySem.W.plainGet_of hg).1 (PySem.W.plainGet_of hg).2 hf (beq_iff_eq.mp ht) (by show (PySem.W.lookIn name od).map (·.isSome)=some false;rw[hl,hv];rfl) h
theorem ZlS {ns:List Str} {Q:Unit->Shared->Prop} (X:K.In s.heap) (I:ObjM s.heap x dx C mA)
  (hs:PySem.W.findIn K (.ref C) "__setattr__"=some (some (.builtin "object.__setattr__"))) (hp:PySem.W.plainOver K C=true) (ht:PySem.W.takerIn K C name=some none) (hh:PySem.W.hasDictIn K C=true)
  (hw:PySem.Within mA ns) (hsz:ns.length<=sizeLine)
  (h:∀ h',ObjM h' x dx C (fun y=>if y=name then some v else mA y)->Heap.SameBut dx s.heap h'->Q () { s with heap:=h',toks:=s.toks+2 }) :
  wpAny (model prog w) A (setAttr (.ref x) name v) Q E s:=by
 obtain ⟨od,J,hl⟩:=I.look
 refine PySem.W.set_plain X J hs (PySem.W.osa_open (s:={ s with toks:=s.toks+1 }) (r:=none) X J hp ht fun b=>?_)
 obtain ⟨cd,hc,hd'⟩:=PySem.W.any_some hh
 have hx:s.heap.get? x=some ⟨.ref C,some dx,.plain,#[]⟩:=I.obj
 refine wpAny_bind (wpAny_pure (wpAny_bind (wpAny_bind (wpAny_loadPart hx (wpAny_bind (PySem.W.Looks.here (s:={ s with toks:=s.toks+1 }) (PySem.W.looks_clsIn X hc) ?_))))))
 rw[hd']
 refine wpAny_pure (a:=some dx) (wpAny_bind (wpAny_pure (wpAny_bind ?_)))
 refine wpAny_nsSet1 (s:={ s with toks:=s.toks+1 }) I.ns fun h' hn2 hs2=>?_
 obtain ⟨oD,esD,epD,hoD,hdD,hcD⟩:=hn2.count (PySem.Within.cons name v hw)
 refine wpAny_bind (wpAny_lookBehind hoD (by rw[hdD];exact pastItsLine_dict (Nat.le_trans hcD (by rw[length_cons];lia))) ?_)
 exact wpAny_pure (h _ ⟨(hs2.2 _ (Ne.symm I.ne)).trans I.obj,hn2,I.ne⟩ hs2)
theorem ZkN {R:Result->Shared->Prop} {vs:List Value} {kw:List (Str×Value)} (X:K.In s.heap) (hm:PySem.W.makesIn K C=true)
  (hi:PySem.W.findIn K (.ref C) "__init__"=some (some (.ref f))) (hf:PySem.W.typeIn K (.ref f)=some (.type "function"))
  (h:codeAny (model prog w) (A.under (.builtin "type.__call__" ⟨.ref C::vs,kw⟩)) (.call (.ref f) ⟨.ref (s.heap.objs.size+1)::vs,kw⟩) (PySem.W.InitBack (s.heap.objs.size+1) R)
   { s with heap:=(s.heap.push PySem.W.emptyDict).push (PySem.W.instObj C s.heap.objs.size) }) :
  codeAny (model prog w) A (.call (.ref C) ⟨vs,kw⟩) R s:=by
 obtain ⟨hh,g,d,t,os⟩:=s
 exact PySem.W.make_core (PySem.W.makes_of X hm) (PySem.W.looks_findIn X hi) (fun self=>PySem.W.bind_fn X self hf) (.inl rfl) h
end
def putF (f:Str) (v:V):List (Str×V)->List (Str×V)
 | []=>[(f,v)]
 | (g,x)::r=>if g=f then (g,v)::r else (g,x)::putF f v r
theorem Ze4 (f g : Str) (v : V) : ∀ fs : List (Str × V), (putF f v fs).lookup g = if g = f then some v else fs.lookup g
  | [] => by
    show List.lookup g [(f,v)]=_
    by_cases h:g=f
    · have hb : (g == f) = true := beq_iff_eq.mpr h
      simp only[List.lookup,hb,if_pos h]
    · have hb : (g == f) = false := beq_eq_false_iff_ne.mpr h
      simp only[List.lookup,hb,if_neg h]
  | (k, x) :: r => by
    have ih:=Ze4 f g v r
    rw[show putF f v ((k,x)::r)=(if k=f then (k,v)::r else (k,x)::putF f v r) from rfl]
    by_cases hk:k=f
    · rw[if_pos hk]
      by_cases h:g=k
      · have hb : (g == k) = true := beq_iff_eq.mpr h
        simp only[List.lookup,hb,if_pos (h.trans hk)]
      · have hb : (g == k) = false := beq_eq_false_iff_ne.mpr h
        simp only[List.lookup,hb,if_neg (fun e:g=f=>h (e.trans hk.symm))]
    · rw[if_neg hk]
      by_cases h:g=k
      · have hb : (g == k) = true := beq_iff_eq.mpr h
        simp only[List.lookup,hb,if_neg (fun e:g=f=>hk (h.symm.trans e))]
      · have hb : (g == k) = false := beq_eq_false_iff_ne.mpr h
        simp only[List.lookup,hb]
        exact ih
theorem Ze6 (f : Str) (v : V) : ∀ fs : List (Str × V), f ∈ (putF f v fs).map (·.1) /\ ∀ g, g ∈ fs.map (·.1) -> g ∈ (putF f v fs).map (·.1)
  | [] => ⟨by simp[putF], fun g h => by simp at h⟩
  | (k, x) :: r => by
    obtain ⟨i1,i2⟩:=Ze6 f v r
    rw[show putF f v ((k,x)::r)=(if k=f then (k,v)::r else (k,x)::putF f v r) from rfl]
    by_cases hk:k=f
    · rw[if_pos hk]
      subst hk
      exact ⟨by simp,fun g h=>by simpa using h⟩
    · rw[if_neg hk]
      refine ⟨?_,fun g h=>?_⟩
      · rw[map_cons]
        exact mem_cons_of_mem _ i1
      · rw[map_cons] at h ⊢
        rcases mem_cons.mp h with e|e
        · exact mem_cons.mpr (.inl e)
        · exact mem_cons_of_mem _ (i2 g e)
theorem Ze5 (f : Str) (v : V) : ∀ fs : List (Str × V), (putF f v fs).length <= fs.length + 1
  | [] => by simp[putF]
  | (k, x) :: r => by
    have ih:=Ze5 f v r
    rw[show putF f v ((k,x)::r)=(if k=f then (k,v)::r else (k,x)::putF f v r) from rfl]
    by_cases hk:k=f
    · rw[if_pos hk, length_cons, length_cons]; lia
    · rw[if_neg hk, length_cons, length_cons]; lia
theorem RelO.some_of {v:V} {o:Option Value} (r:RelO (some v) o):∃ u,o=some u/\RelV v u:=by
 cases o with
 | none=>exact (show False from r).elim
 | some u=>exact ⟨u,rfl,r⟩
theorem RelO.none_of {o:Option Value} (r:RelO none o):o=none:=by
 cases o with
 | none=>rfl
 | some u=>exact (show False from r).elim
theorem ZjT {v:V} {u:Value} (r:RelV v u):PySem.W.handedIn u=true:=by
 cases v with
 | non=>cases (show u=Value.none from r);rfl
 | bl b=>cases (show u=Value.bool b from r);rfl
 | int i=>obtain ⟨t,e⟩:=(show ∃ t,u=Value.int i t from r);cases e;rfl
 | str x=>obtain ⟨t,e⟩:=(show ∃ t,u=Value.str x t from r);cases e;rfl
 | byt b=>obtain ⟨t,e⟩:=(show ∃ t,u=Value.bytes b t from r);cases e;rfl
 | flt b=>obtain ⟨t,e⟩:=(show ∃ t,u=Value.float b t from r);cases e;rfl
 | ref a=>cases (show u=Value.ref a from r);rfl
 | ty n=>cases (show u=Value.type n from r);rfl
section
variable {P:Program} {w:World} {H H':Hp} {h h':Heap} {a C dx:Addr} {fs fs':List (Str×V)}
theorem ZhE (hok:HOk P w H h) (e:H a=some (.ins C dx fs)):∃ mA,ObjM h a dx C mA/\(∀ f,RelO (fs.lookup f) (mA f))/\PySem.Within mA (fs.map (·.1))/\fs.length<=1000/\H dx=some (.own a):=by
 obtain ⟨d,z,ne,ob,mA,n,r,q⟩:=(show ObjOk P w H h a (.ins C dx fs) from hok a _ e)
 exact ⟨mA,⟨ob,n,ne⟩,r,q,z,d⟩
end
structure Cls (K:W.Frag) (C:Addr):Prop where
 pg:PySem.W.plainGet K C Str.empty=true
 hd:PySem.W.hasDictIn K C=true
 po:PySem.W.plainOver K C=true
 sa:PySem.W.findIn K (.ref C) "__setattr__"=some (some (.builtin "object.__setattr__"))
theorem Cls.get {K:W.Frag} {C:Addr} (c:Cls K C) (f:Str):PySem.W.plainGet K C f=true:=c.pg
def NoAttr (K:W.Frag) (C:Addr) (f:Str):Prop:=PySem.W.findIn K (.ref C) f=some none
theorem NoAttr.taker {K:W.Frag} {C:Addr} {f:Str} (n:NoAttr K C f):PySem.W.takerIn K C f=some none:=by
 unfold PySem.W.takerIn
 rw[show PySem.W.findIn K (.ref C) f=some none from n]
 rfl
structure Meth (K:W.Frag) (C:Addr) (m:Str) (f:Addr):Prop where
 at_:PySem.W.findIn K (.ref C) m=some (some (.ref f))
 fn:PySem.W.isFn K (.ref f)=true
 kp:PySem.W.keepIn K (.ref f)=true
section
variable {X:Cx} {pins:List (Addr×Obj)} {σ:St} {H:Hp} {s:Shared} {a C dx:Addr} {fs:List (Str×V)} {f:Str} {v:V} {A:Around} {E:Value->Shared->Prop}
theorem ZiJ {b:Bool} {Q:Value->Shared->Prop} (I:Inv X pins σ H s) (e:H a=some (.ins C dx fs)) (c:Cls X.K C) (n:NoAttr X.K C f) (l:fs.lookup f=some v)
  (h:∀ u s',Inv X pins σ H s'->RelV v u->Q u s'):wpAny (model X.prog X.w) A (getAttr (.ref a) f b) Q E s:=by
 obtain ⟨mA,O,r,_,_,_⟩:=ZhE I.hok e
 obtain ⟨u,hu,ru⟩:=RelO.some_of (v:=v) (o:=mA f) (by rw[<-l];exact r f)
 exact ZmF I.kIn O (c.get f) c.hd n hu (ZjT ru) (h u _ (I.tok _) ru)
theorem Zex {m:Str} {g:Addr} {pl:Sem Bool} {Q:Value×List Value->Shared->Prop} (I:Inv X pins σ H s) (e:H a=some (.ins C dx fs)) (c:Cls X.K C) (k:Meth X.K C m g) (l:fs.lookup m=none)
  (h:Q (.ref g,[.ref a]) s):wpAny (model X.prog X.w) A (getMethod (.ref a) m pl) Q E s:=by
 obtain ⟨mA,O,r,_,_,_⟩:=ZhE I.hok e
 have hn:mA m=none:=RelO.none_of (by rw[<-l];exact r m)
 exact ZkX I.kIn O (c.get m) k.at_ k.fn hn h
theorem Ziy {y:V} {u:Value} {Q:Unit->Shared->Prop} (I:Inv X pins σ H s) (e:H a=some (.ins C dx fs)) (c:Cls X.K C) (n:NoAttr X.K C f) (hl:fs.length < 1000) (ry:RelV y u)
  (h:∀ s',Inv X pins σ (upd H a (.ins C dx (putF f y fs))) s'->Q () s'):wpAny (model X.prog X.w) A (setAttr (.ref a) f u) Q E s:=by
 obtain ⟨mA,O,r,wi,_,ho⟩:=ZhE I.hok e
 have hz:(fs.map (·.1)).length<=sizeLine:=by rw[length_map,sizeLine_eq];lia
 refine ZlS I.kIn O c.sa c.po n.taker c.hd wi hz fun h' O' sb=>h _ ?_
 have hd:∃ o,h'.get? dx=some o:=let ⟨o,_,_,e',_⟩:=O'.ns;⟨o,e'⟩
 refine I.write (x:=a) (e:=dx) (by rw[e];exact True.intro) (.inr ho) (fun b q hb z=>(sb.2 b hb).trans z) hd ?_
 refine ⟨by rw[Zax O.ne];exact ho,?_,O.ne,O'.obj,_,O'.ns,fun g=>?_,fun g hg=>?_⟩
 ·have:=Ze5 f y fs;lia
 ·show RelO ((putF f y fs).lookup g) (if g=f then some u else mA g)
  rw[Ze4]
  by_cases q:g=f
  ·rw[if_pos q,if_pos q];exact ry
  ·rw[if_neg q,if_neg q];exact r g
 ·by_cases q:g=f
  ·rw[q];exact (Ze6 f y fs).1
  ·refine (Ze6 f y fs).2 g (wi g fun z=>hg ?_)
   show (if g=f then some u else mA g)=none
   rw[if_neg q];exact z
theorem Inv.made (I:Inv X pins σ H s):Inv X pins σ (upd (upd H s.heap.objs.size (.own (s.heap.objs.size+1))) (s.heap.objs.size+1) (.ins C s.heap.objs.size []))
  { s with heap:=(s.heap.push PySem.W.emptyDict).push (PySem.W.instObj C s.heap.objs.size) }:=by
 have e1:(s.heap.push PySem.W.emptyDict).get? s.heap.objs.size=some PySem.W.emptyDict:=Heap.get?_push_size s.heap rfl
 have e2:((s.heap.push PySem.W.emptyDict).push (PySem.W.instObj C s.heap.objs.size)).get? (s.heap.objs.size+1)=some (PySem.W.instObj C s.heap.objs.size):=by
  have:=Heap.get?_push_size (s.heap.push PySem.W.emptyDict) (o:=PySem.W.instObj C s.heap.objs.size) rfl
  rwa [Heap.size_push] at this
 have e3:(s.heap.push PySem.W.emptyDict).Ns s.heap.objs.size (fun _=>none):=⟨PySem.W.emptyDict,#[],_,e1,rfl,(fun e he=>absurd he (by simp)),fun _=>rfl⟩
 have I1:=I.laid (a:=s.heap.objs.size) (o:=.own (s.heap.objs.size+1)) (h':=s.heap.push PySem.W.emptyDict) (t':=s.toks) (fun b u q=>Heap.get?_push_of_some _ q) (Nat.le_refl _) ⟨_,e1⟩
 refine I1.laid (a:=s.heap.objs.size+1) (o:=.ins C s.heap.objs.size []) (t':=s.toks) (fun b u q=>Heap.get?_push_of_some _ q) (Nat.le_of_eq (Heap.size_push _ _)) ?_
 have ne:s.heap.objs.size≠s.heap.objs.size+1:=Nat.ne_of_lt (Nat.lt_succ_self _)
 refine ⟨by rw[Zax ne,Zag],Nat.zero_le _,ne,e2,fun _=>none,(Heap.Ns1.of_empty e3).at fun o q=>Heap.get?_push_of_some _ q,fun _=>True.intro,fun y hy=>absurd rfl hy⟩
theorem ZmP {prog:Program} {w:World} {env:Env} {e:Expr} {f:Str} {pos:Pos} {s:Shared} {Q:Value->Shared->Prop} (hb:attributeBase e f env (eval e env)=eval e env)
  (h:wpAny (model prog w) A (eval e env) (fun o s₁=>wpAny (model prog w) A (getAttr o f true) Q E s₁) E s):wpAny (model prog w) A (eval (.Attribute e f pos) env) Q E s :=
 Attribute_any_ h (by rw[arm_eval_Attribute,hb])
end
def tFld (K:W.Frag) (ta:TE) (f:Str):TE:=fun σ H Q=>ta σ H fun x H1=>∃ a C dx fs v,x=.ref a/\H1 a=some (.ins C dx fs)/\Cls K C/\NoAttr K C f/\fs.lookup f=some v/\Q v H1
def sFld (K:W.Frag) (ta tv:TE) (f:Str):TS:=fun D σ H=>tv σ H fun y H1=>ta σ H1 fun x H2=>∃ a C dx fs,x=.ref a/\H2 a=some (.ins C dx fs)/\Cls K C/\NoAttr K C f/\fs.length < 1000 /\
 D.nx σ (upd H2 a (.ins C dx (putF f y fs)))
section
variable {X:Cx} {o e value:Expr} {f:Str} {pos pos' tpos:Pos} {ta tv:TE}
theorem pe_fld (he:PE X e ta) (hb:attributeBase e f X.env (eval e X.env)=eval e X.env):PE X (.Attribute e f pos) (tFld X.K ta f):=by
 intro pins s σ H Q I h
 refine ZmP hb (thn (he pins s σ H _ I h) fun u s1 ⟨x,H1,I1,rx,a,C,dx,fs,v,ex,ea,c,n,l,q⟩=>?_)
 subst ex
 obtain rfl:u=Value.ref a:=rx
 exact ZiJ I1 ea c n l fun u' s2 I2 ru=>⟨v,H1,I2,ru,q⟩
theorem ps_fld (ha:PE X o ta) (hv:PE X value tv) (hs:swapsWith value (some (.Attribute o f pos')) pos.line X.env=pure false):PS X (.Assign [.Attribute o f pos'] value pos) (sFld X.K ta tv f):=by
 intro pins s σ H D I h
 refine plainObj_wpAny_Assign_Attribute (thn (hv pins s σ H _ I h) fun u s1 ⟨y,H1,I1,ry,q⟩=>thn (ha pins s1 σ H1 _ I1 q) fun ov s2 ⟨x,H2,I2,rx,a,C,dx,fs,ex,ea,c,n,l,q2⟩=>?_) hs
 subst ex
 obtain rfl:ov=Value.ref a:=rx
 exact Ziy I2 ea c n l ry fun s3 I3=>⟨σ,_,I3,q2⟩
theorem Zmp {pl:Sem Bool} {m:Str} {apos:Pos} {args:List Expr} {pins:List (Addr×Obj)} {s:Shared} {σ:St} {H:Hp} {Q:Value->Shared->Prop} {te:TE} (he:PE X e te) (I:Inv X pins σ H s)
  (h:te σ H fun x H1=>∃ a C dx fs g,x=.ref a/\H1 a=some (.ins C dx fs)/\Cls X.K C/\Meth X.K C m g/\fs.lookup m=none /\
   ∀ s1,Inv X pins σ H1 s1->wpAny (model X.prog X.w) X.A (callWith pos (.ref g) [.ref a] (backTo pos (starEach args X.env)) (backToKw pos (keywordEach [] X.env))) Q X.xe s1)
  (ht:eval (.Call (.Attribute e m apos) args [] pos) X.env=(do
   let ov <- eval e X.env
   standAt apos.atName
   let (f,first) <- holding [ov] (getMethod ov m pl)
   callWith pos f first (backTo pos (starEach args X.env)) (backToKw pos (keywordEach [] X.env)))) :
  wpAny (model X.prog X.w) X.A (eval (.Call (.Attribute e m apos) args [] pos) X.env) Q X.xe s:=by
 refine PySem.W.methodCall_KW (pl:=pl) (thn (he pins s σ H _ I h) fun u s1 ⟨x,H1,I1,rx,a,C,dx,fs,g,ex,ea,c,k,l,q⟩=>?_) ht
 subst ex
 obtain rfl:u=Value.ref a:=rx
 exact Zex I1 ea c k l (q s1 I1)
end
end L2
namespace L2
open PySem PySem.Spec PyProof.Rows
structure Room (k:Nat) (A:Around):Prop where
 hd:A.handled=none
 dp:A.depth+3 * k+5 < recursionLimit
 un:A.units+16 * k+200 < cLine
theorem Room.mono {j k:Nat} {A:Around} (r:Room k A) (h:j<=k):Room j A:=⟨r.hd,by have:=r.dp;lia,by have:=r.un;lia⟩
theorem Room.m {j k:Nat} {A:Around} (r:Room k A) (h:j<=k:=by first|decide|lia):Room j A:=r.mono h
theorem Room.deeper {k:Nat} {A:Around} (r:Room (k+1) A) (env:Env):Room k (A.deeper env) :=
 ⟨r.hd,by have:=r.dp;show A.depth+1+3 * k+5 < _;lia,by have:=r.un;show A.units+3+16 * k+200 < _;lia⟩
theorem ZiE {A:Around} {C:Addr} {us:List Value} {kw:List (Str×Value)}:(A.under (.builtin "type.__call__" ⟨.ref C::us,kw⟩)).depth=A.depth+1:=by
 first|rfl|simp[Around.under,Code.weight,Code.isCreation,Code.isGuard,Code.isCaller,Code.frames,Code.isFrame,guardIds]
theorem ZiD {A:Around} {C:Addr} {us:List Value} {kw:List (Str×Value)}:(A.under (.builtin "type.__call__" ⟨.ref C::us,kw⟩)).units=A.units+1:=by
 first|rfl|simp[Around.under,Code.cUnits,Code.frames,Code.isFrame]
theorem Room.make {k:Nat} {A:Around} (r:Room (k+1) A) (C:Addr) (us:List Value) (kw:List (Str×Value)):Room k (A.under (.builtin "type.__call__" ⟨.ref C::us,kw⟩)) :=
 ⟨r.hd,by have:=r.dp;rw[ZiE];lia,by have:=r.un;rw[ZiD];lia⟩
theorem Room.depth {k:Nat} {A:Around} (r:Room k A):A.depth < recursionLimit:=by have:=r.dp;lia
theorem Room.units {k:Nat} {A:Around} (r:Room k A):A.units+64 < cLine:=by have:=r.un;lia
def tNil:TA:=fun _ H Q=>Q [] H
def Zae (ta:TE) (tr:TA):TA:=fun σ H Q=>ta σ H fun x H1=>tr σ H1 fun xs H2=>Q (x::xs) H2
section
variable {X:Cx} {e:Expr} {es:List Expr} {te:TE} {t:TA} {pos:Pos}
theorem Zad:PA X [] tNil:=fun _ _ _ _ H Q I h=>Calls.spliced_nil ⟨[],H,I,.nil,h⟩
theorem Zcb (ha:PE X e te) (hr:PA X es t) (hs:starEach (e::es) X.env=(false,eval e X.env)::starEach es X.env:=by rfl):PA X (e::es) (Zae te t):=by
 intro pos pins s σ H Q I h
 rw[hs]
 show wpAny _ _ (spliced ((false,eval e X.env)::backTo pos (starEach es X.env))) _ _ s
 refine Calls.spliced_cons (thn (ha pins s σ H _ I h) fun u s1 ⟨x,H1,I1,r1,q1⟩=>?_)
 exact thn (hr pos pins s1 σ H1 _ I1 q1) fun us s2 ⟨xs,H2,I2,r2,q2⟩=>⟨x::xs,H2,I2,.cons r1 r2,q2⟩
def tTup (t:TA):TE:=fun σ H Q=>t σ H fun xs H1=>xs.length<=sizeLine/\∀ p,H1 p=none->Q (.ref p) (upd H1 p (.tup xs))
def tLst (t:TA):TE:=fun σ H Q=>t σ H fun xs H1=>xs.length<=sizeLine/\∀ p,H1 p=none->Q (.ref p) (upd H1 p (.lst xs))
theorem Zap {x1} (h:PA X es t):PE X (.Tuple es x1 pos) (tTup t):=by
 intro pins s σ H Q I hq
 refine wpAny_Tuple_spliced (thn (h pos pins s σ H _ I hq) fun us s1 ⟨xs,H1,I1,r,z,q⟩=>⟨by rw[<-r.length];exact z,?_⟩)
 have hf:H1 s1.heap.objs.size=none:=I1.hok.fresh (Nat.le_refl _)
 refine ⟨.ref s1.heap.objs.size,upd H1 s1.heap.objs.size (.tup xs),I1.laid (t':=s1.toks) (fun b u e=>Heap.get?_push_of_some _ e) (Nat.le_refl _) ?_,rfl,q _ hf⟩
 exact ⟨z,us,r,⟨_,Heap.get?_push_size _ rfl,rfl,_,rfl⟩⟩
theorem ZaH (h:PA X es t):PE X (.List es pos) (tLst t):=by
 intro pins s σ H Q I hq
 refine wpAny_List_spliced (thn (h pos pins s σ H _ I hq) fun us s1 ⟨xs,H1,I1,r,z,q⟩=>⟨by rw[<-r.length];exact z,?_⟩)
 have hf:H1 s1.heap.objs.size=none:=I1.hok.fresh (Nat.le_refl _)
 refine ⟨.ref s1.heap.objs.size,upd H1 s1.heap.objs.size (.lst xs),I1.laid (t':=s1.toks) (fun b u e=>Heap.get?_push_of_some _ e) (Nat.le_refl _) ?_,rfl,q _ hf⟩
 exact ⟨z,us,0,r,Heap.get?_push_size _ rfl⟩
end
abbrev Sp:=List V->Hp->VK->XK->Prop
abbrev CXT:=List Env->Hp->Shared->XK->Value->Shared->Prop
structure Env0 (P:Program) (w:World) (K:W.Frag) (mg:Str->Option Value) (base:Heap) (A:Around) (outer:List Env) (s:Shared) (H:Hp):Prop where
 frames:A.frames=some outer
 mod:Mod K mg base
 bs:∀ b o,base.get? b=some o->s.heap.get? b=some o/\H b=none
 bsz:base.objs.size<=s.heap.objs.size
 funs:s.heap.FunFrames base outer
 frf:∀ b∈frs outer,H b=none
 hok:HOk P w H s.heap
 bare:AllBare s.gens
def CE (outer:List Env) (P:Program) (w:World) (H:Hp) (s:Shared) (Q:VK) (u:Value) (s':Shared):Prop :=
 ∃ v H',s'.os=s.os/\AllBare s'.gens/\Un (frs outer) [] H H' s.heap s'.heap/\HOk P w H' s'.heap/\RelV v u/\Q v H'
def CR (CX:CXT) (outer:List Env) (P:Program) (w:World) (H:Hp) (s:Shared) (Q:VK) (E:XK) (r:Result) (s':Shared):Prop :=
 match r with
 | .ok (.ret u)=>CE outer P w H s Q u s'
 | .ok _=>False
 | .error e=>CX outer H s E e s'
structure FnOk (P:Program) (w:World) (K:W.Frag) (mg:Str->Option Value) (base:Heap) (CX:CXT) (k:Nat) (f:Addr) (fd:FuncData) (ps:List Str) (sp:Sp):Prop where
 len:∀ vs H Q E,sp vs H Q E->vs.length=ps.length
 run:∀ (A:Around) (outer:List Env) (s:Shared) (H:Hp) (args:Args) (us:List Value) (vs:List V) (Q:VK) (E:XK),Room k A->Env0 P w K mg base A outer s H->BindsTo s fd args (ps.zip us)->Vals vs us->sp vs H Q E ->
  codeAny (model P w) A (.call (.ref f) args) (CR CX outer P w H s Q E) s
theorem Env0.make {P:Program} {w:World} {K:W.Frag} {mg:Str->Option Value} {base:Heap} {A:Around} {outer:List Env} {s:Shared} {H:Hp} (e:Env0 P w K mg base A outer s H) (C:Addr) (us:List Value) (kw:List (Str×Value)) :
  Env0 P w K mg base (A.under (.builtin "type.__call__" ⟨.ref C::us,kw⟩)) outer s H:=⟨by first|exact e.frames|(simpa [Around.under,Code.envs,Code.isFrame,pushEnvs] using e.frames),e.mod,e.bs,e.bsz,e.funs,e.frf,e.hok,e.bare⟩
section
variable {X:Cx} {pins:List (Addr×Obj)} {σ:St} {H:Hp} {s s':Shared}
theorem Inv.env0 (I:Inv X pins σ H s):Env0 X.prog X.w X.K X.mg X.base X.A X.stack s H :=
 ⟨I.ok.frames,I.ok.mod,I.bs,Nat.le_trans I.ok.bsz I.sz,I.stack,I.stkFree,I.hok,I.bare⟩
theorem Inv.after {Q:VK} {u:Value} (I:Inv X pins σ H s) (h:CE X.stack X.prog X.w H s Q u s'):EP X pins σ Q u s':=by
 obtain ⟨v,H',os,bare,un,hok,r,q⟩:=h
 obtain ⟨hh,g,d,t,os'⟩:=s'
 obtain rfl:os'=s.os:=os
 exact ⟨v,H',I.call (h':=hh) (g':=g) (d':=d) (t':=t) (ch:=[]) un hok bare (fun b z=>absurd z (by simp)),r,q⟩
end
def ZaQ (sp:Sp) (dvs:List V) (E:XK) (t:TA):TE:=fun σ H Q=>t σ H fun vs H1=>sp (vs++dvs) H1 Q E
def Zi3 (C:Addr) (m:Str) (sp:Sp) (dvs:List V) (E:XK) (ta:TE) (t:TA):TE:=fun σ H Q=>ta σ H fun x H1=>∃ a dx fs,x=.ref a/\H1 a=some (.ins C dx fs)/\fs.lookup m=none /\
 t σ H1 fun vs H2=>sp (x::(vs++dvs)) H2 Q E
def ZlO (C:Addr) (sp:Sp) (dvs:List V) (E:XK) (t:TA):TE:=fun σ H Q=>t σ H fun vs H1=>∀ x dx,H1 x=none->H1 dx=none->dx≠x ->
 sp (.ref x::(vs++dvs)) (upd (upd H1 dx (.own x)) x (.ins C dx [])) (fun v H2=>v=.non/\Q (.ref x) H2) E
def Binds (K:W.Frag) (fd:FuncData) (ps:List Str) (ds:List Value):Prop :=
 ∀ (s:Shared) (us:List Value),K.In s.heap->(us++ds).length=ps.length->BindsTo s fd ⟨us,[]⟩ (ps.zip (us++ds))
theorem Binds.all {K:W.Frag} {fd:FuncData} {ps:List Str} (h:∀ us:List Value,us.length=ps.length->bindArgs fd ⟨us,[]⟩=pure (ps.zip us)):Binds K fd ps []:=fun s us _ hl=>by
 rw[append_nil] at hl ⊢
 exact .of_eq (h us hl)
def Zfg (CX:CXT) (X:Cx) (E:XK):Prop:=∀ (pins:List (Addr×Obj)) (σ:St) (H:Hp) (s:Shared) (e:Value) (s':Shared),Inv X pins σ H s->CX X.stack H s E e s'->X.xe e s'
section
variable {X:Cx} {CX:CXT} {k:Nat} {f C:Addr} {fd:FuncData} {ps:List Str} {sp:Sp} {dvs:List V} {ds:List Value} {E:XK} {x m:Str} {p pos apos:Pos} {e o:Expr} {es:List Expr} {ta:TE} {t:TA}
theorem Zje {pins:List (Addr×Obj)} {σ:St} {H:Hp} {s:Shared} {Q:VK} {us:List Value} {vs:List V} (F:FnOk X.prog X.w X.K X.mg X.base CX k f fd ps sp) (hr:Room k X.A) (hb:Binds X.K fd ps ds) (hd:Vals dvs ds) (hx:Zfg CX X E)
  (I:Inv X pins σ H s) (r:Vals vs us) (h:sp (vs++dvs) H Q E):wpAny (model X.prog X.w) X.A (call (.ref f) us) (EP X pins σ Q) X.xe s:=by
 have r2:Vals (vs++dvs) (us++ds):=r.append hd
 have hl:(us++ds).length=ps.length:=by rw[<-r2.length];exact F.len _ _ _ _ h
 refine wpAny_call (codeAny_mono (F.run X.A X.stack s H ⟨us,[]⟩ (us++ds) (vs++dvs) Q E hr I.env0 (hb s us I.kIn hl) r2 h) fun r s' hq=>?_)
 cases r with
 | error e=>exact hx pins σ H s e s' I hq
 | ok fl =>
  cases fl with
  | ret u=>exact I.after hq
  | next=>exact False.elim hq
  | brk=>exact False.elim hq
  | cont=>exact False.elim hq
theorem Zmg (F:FnOk X.prog X.w X.K X.mg X.base CX k f fd ps sp) (hr:Room k X.A) (hg:Gl X x) (hm:X.mg x=some (.ref f)) (hk:PySem.W.keepIn X.K (.ref f)=true) (hb:Binds X.K fd ps ds) (hd:Vals dvs ds) (hx:Zfg CX X E)
  (ha:PA X (e::es) t) (hdb:(x == ("__debug__":Str))=false:=by decide) (he:starEach (e::es) X.env=(false,eval e X.env)::starEach es X.env:=by rfl) (hpl:(backTo pos (starEach es X.env)).any (·.1)=false:=by rfl) :
  PE X (.Call (.Name x p) (e::es) [] pos) (ZaQ sp dvs E t):=by
 intro pins s σ H Q I h
 refine wpAny_Call_Name_kw (ZhC I hg hm ?_ hdb)
 refine PySem.W.callWith_K (h₀:=X.base) I.ok.mod.kin hk (thn (ha pos pins s σ H _ I h) fun us s1 ⟨vs,H1,I1,r,q⟩=>⟨I1.kIn,?_⟩) he hpl
 exact Zje F hr hb hd hx I1 r q
theorem Zmb {pl:Sem Bool} (he:PE X o ta) (c:Cls X.K C) (hm:Meth X.K C m f) (F:FnOk X.prog X.w X.K X.mg X.base CX k f fd ps sp) (hr:Room k X.A) (hb:Binds X.K fd ps ds) (hd:Vals dvs ds) (hx:Zfg CX X E) (ha:PA X (e::es) t)
  (hst:starEach (e::es) X.env=(false,eval e X.env)::starEach es X.env:=by rfl) (hpl:(backTo pos (starEach es X.env)).any (·.1)=false:=by rfl)
  (ht:eval (.Call (.Attribute o m apos) (e::es) [] pos) X.env=(do
   let ov <- eval o X.env
   standAt apos.atName
   let (f,first) <- holding [ov] (getMethod ov m pl)
   callWith pos f first (backTo pos (starEach (e::es) X.env)) (backToKw pos (keywordEach [] X.env))):=by rfl) :
  PE X (.Call (.Attribute o m apos) (e::es) [] pos) (Zi3 C m sp dvs E ta t):=by
 intro pins s σ H Q I h
 refine PySem.W.methodCall_KW (pl:=pl) (thn (he pins s σ H _ I h) fun u s1 ⟨x,H1,I1,rx,a,dx,fs,ex,ea,l,q⟩=>?_) ht
 subst ex
 obtain rfl:u=Value.ref a:=rx
 refine Zex I1 ea c hm l ?_
 refine PySem.W.callWith_K (first:=[.ref a]) (h₀:=X.base) I.ok.mod.kin hm.kp (thn (ha pos pins s1 σ H1 _ I1 q) fun us s2 ⟨vs,H2,I2,r,q2⟩=>⟨I2.kIn,?_⟩) hst hpl
 exact Zje (us:=.ref a::us) (vs:=.ref a::vs) F hr hb hd hx I2 (.cons rfl r) q2
theorem ZkD {pl:Sem Bool} (he:PE X o ta) (c:Cls X.K C) (hm:Meth X.K C m f) (F:FnOk X.prog X.w X.K X.mg X.base CX k f fd ps sp) (hr:Room k X.A) (hb:Binds X.K fd ps ds) (hd:Vals dvs ds) (hx:Zfg CX X E)
  (ht:eval (.Call (.Attribute o m apos) [] [] pos) X.env=(do
   let ov <- eval o X.env
   standAt apos.atName
   let (f,first) <- holding [ov] (getMethod ov m pl)
   callWith pos f first (backTo pos (starEach [] X.env)) (backToKw pos (keywordEach [] X.env))):=by rfl) :
  PE X (.Call (.Attribute o m apos) [] [] pos) (Zi3 C m sp dvs E ta tNil):=by
 intro pins s σ H Q I h
 refine PySem.W.methodCall_KW (pl:=pl) (thn (he pins s σ H _ I h) fun u s1 ⟨x,H1,I1,rx,a,dx,fs,ex,ea,l,q⟩=>?_) ht
 subst ex
 obtain rfl:u=Value.ref a:=rx
 refine Zex I1 ea c hm l ?_
 exact PySem.W.callWith_K0 (first:=[.ref a]) I1.kIn hm.kp (Zje (us:=[.ref a]) (vs:=[.ref a]) F hr hb hd hx I1 (.cons rfl .nil) q)
structure Mk (K:W.Frag) (C f:Addr):Prop where
 makes:PySem.W.makesIn K C=true
 init:PySem.W.findIn K (.ref C) "__init__"=some (some (.ref f))
 fn:PySem.W.isFn K (.ref f)=true
 kp:PySem.W.keepIn K (.ref C)=true
theorem Zkt {pins:List (Addr×Obj)} {σ:St} {H:Hp} {s:Shared} {Q:VK} {us:List Value} {vs:List V} (M:Mk X.K C f) (F:FnOk X.prog X.w X.K X.mg X.base CX k f fd ps sp) (hr:Room (k+1) X.A) (hb:Binds X.K fd ps ds) (hd:Vals dvs ds)
  (hx:Zfg CX X E) (I:Inv X pins σ H s) (r:Vals vs us)
  (h:∀ x dx,H x=none->H dx=none->dx≠x->sp (.ref x::(vs++dvs)) (upd (upd H dx (.own x)) x (.ins C dx [])) (fun v H2=>v=.non/\Q (.ref x) H2) E) :
  wpAny (model X.prog X.w) X.A (call (.ref C) us) (EP X pins σ Q) X.xe s:=by
 have hq:=h (s.heap.objs.size+1) s.heap.objs.size (I.hok.fresh (Nat.le_succ _)) (I.hok.fresh (Nat.le_refl _)) (Nat.ne_of_lt (Nat.lt_succ_self _))
 have I2:=Inv.made (C:=C) I
 have r2:Vals (V.ref (s.heap.objs.size+1)::(vs++dvs)) (Value.ref (s.heap.objs.size+1)::(us++ds)):=.cons rfl (r.append hd)
 have hl:(Value.ref (s.heap.objs.size+1)::us++ds).length=ps.length:=by
  have e:=r2.length
  rw[F.len _ _ _ _ hq] at e
  exact e.symm
 refine wpAny_call (ZkN (f:=f) I.kIn M.makes M.init (beq_iff_eq.mp M.fn) (codeAny_mono (F.run _ X.stack _ _ ⟨Value.ref (s.heap.objs.size+1)::us,[]⟩ (Value.ref (s.heap.objs.size+1)::(us++ds)) _ _ E (hr.make C us [])
  (I2.env0.make C us []) (hb _ (Value.ref (s.heap.objs.size+1)::us) I2.kIn hl) r2 hq) fun r s' hq'=>?_))
 cases r with
 | error e=>exact hx pins σ _ _ e s' I2 hq'
 | ok fl =>
  cases fl with
  | ret u =>
   obtain ⟨v,H',I3,rv,ev,q3⟩:=I2.after hq'
   subst ev
   exact ⟨rv,⟨V.ref (s.heap.objs.size+1),H',I3,rfl,q3⟩⟩
  | next=>exact False.elim hq'
  | brk=>exact False.elim hq'
  | cont=>exact False.elim hq'
theorem Zmc (M:Mk X.K C f) (F:FnOk X.prog X.w X.K X.mg X.base CX k f fd ps sp) (hr:Room (k+1) X.A) (hg:Gl X x) (hm:X.mg x=some (.ref C)) (hb:Binds X.K fd ps ds) (hd:Vals dvs ds) (hx:Zfg CX X E)
  (ha:PA X (e::es) t) (hdb:(x == ("__debug__":Str))=false:=by decide) (he:starEach (e::es) X.env=(false,eval e X.env)::starEach es X.env:=by rfl) (hpl:(backTo pos (starEach es X.env)).any (·.1)=false:=by rfl) :
  PE X (.Call (.Name x p) (e::es) [] pos) (ZlO C sp dvs E t):=by
 intro pins s σ H Q I h
 refine wpAny_Call_Name_kw (ZhC I hg hm ?_ hdb)
 refine PySem.W.callWith_K (h₀:=X.base) I.ok.mod.kin M.kp (thn (ha pos pins s σ H _ I h) fun us s1 ⟨vs,H1,I1,r,q⟩=>⟨I1.kIn,?_⟩) he hpl
 exact Zkt M F hr hb hd hx I1 r q
end
structure FnScope (N P:List Str) (sc:Scope):Prop where
 kind:sc.kind=.function
 co:sc.isCoroutine=false
 gen:sc.isGenerator=false
 nd:N.Nodup
 pre:N.take P.length=P
 par:∀ x∈P,sc.names.lookup x=some .local\/sc.names.lookup x=some .cell
 nofree:∀ y∈sc.names,y.2≠.free
theorem Zg5 {kindOf : Str -> Option NameKind} {x : Str} : ∀ {binds : List (Str × Value)} {m : Str -> Option Value}, (∀ v, (x, v) ∉ binds) -> bindL kindOf binds m x = m x
  | [], _, _ => rfl
  | (n, v) :: r, m, h => by
    unfold bindL
    rw[Zg5 fun w hw=>h w (mem_cons_of_mem _ hw)]
    split
    · have : x ≠ n := by rintro rfl; exact h v mem_cons_self
      simp[this]
    · rfl
theorem Zg7 {kindOf : Str -> Option NameKind} {x : Str} : ∀ {binds : List (Str × Value)} {m : Str -> Option Value}, (∀ v, (x, v) ∉ binds) -> bindC kindOf binds m x = m x
  | [], _, _ => rfl
  | (n, v) :: r, m, h => by
    unfold bindC
    rw[Zg7 fun w hw=>h w (mem_cons_of_mem _ hw)]
    split
    · rfl
    · have : x ≠ n := by rintro rfl; exact h v mem_cons_self
      simp[this]
theorem Zg6 {kindOf : Str -> Option NameKind} {x : Str} {v : Value} : ∀ {P : List Str} {vs : List Value} {i : Nat} {m : Str -> Option Value}, P.Nodup -> P[i]? = some x -> vs[i]? = some v -> kindOf x = some .local ->
    bindL kindOf (P.zip vs) m x=some v
  | [], _, _, _, _, h, _, _ => by simp at h
  | _ :: _, [], _, _, _, _, h, _ => by simp at h
  | p :: P, w :: vs, 0, m, nd, h1, h2, hk => by
    simp at h1 h2;subst h1;subst h2
    show bindL kindOf ((p,w)::P.zip vs) m p=_
    unfold bindL
    rw[Zg5 fun v hv=>(nodup_cons.mp nd).1 (of_mem_zip hv).1,if_pos hk]
    simp
  | p :: P, w :: vs, i + 1, m, nd, h1, h2, hk => by
    show bindL kindOf ((p,w)::P.zip vs) m x=_
    unfold bindL
    exact Zg6 (i := i) (nodup_cons.mp nd).2 (by simpa using h1) (by simpa using h2) hk
theorem Zg8 {kindOf : Str -> Option NameKind} {x : Str} {v : Value} : ∀ {P : List Str} {vs : List Value} {i : Nat} {m : Str -> Option Value}, P.Nodup -> P[i]? = some x -> vs[i]? = some v -> kindOf x ≠ some .local ->
    bindC kindOf (P.zip vs) m x=some v
  | [], _, _, _, _, h, _, _ => by simp at h
  | _ :: _, [], _, _, _, _, h, _ => by simp at h
  | p :: P, w :: vs, 0, m, nd, h1, h2, hk => by
    simp at h1 h2;subst h1;subst h2
    show bindC kindOf ((p,w)::P.zip vs) m p=_
    unfold bindC
    rw[Zg7 fun v hv=>(nodup_cons.mp nd).1 (of_mem_zip hv).1,if_neg hk]
    simp
  | p :: P, w :: vs, i + 1, m, nd, h1, h2, hk => by
    show bindC kindOf ((p,w)::P.zip vs) m x=_
    unfold bindC
    exact Zg8 (i := i) (nodup_cons.mp nd).2 (by simpa using h1) (by simpa using h2) hk
def start (N:List Str) (vs:List V):St:=vs.map some++List.replicate (N.length - vs.length) none
def cxOf (CX:CXT) (P:Program) (w:World) (K:W.Frag) (mg:Str->Option Value) (base:Heap) (N:List Str) (qual:Str) (scope:Scope) (f:Addr) (cd:Value) (A:Around) (outer:List Env) (s:Shared) (H:Hp) (E:XK):Cx where
 prog:=P
 w:=w
 K:=K
 mg:=mg
 base:=base
 A:=A.deeper (envOfC qual scope s.heap.objs.size f cd)
 N:=N
 s₀:=s
 H₀:=H
 env:=envOfC qual scope s.heap.objs.size f cd
 outer:=outer
 stack:=envOfC qual scope s.heap.objs.size f cd::outer
 ex:=[]
 calm:=true
 fn:=fun _=>true
 pn:=[]
 xe:=fun e s'=>wpAny (model P w) (A.deeper (envOfC qual scope s.heap.objs.size f cd)) (leaving (envOfC qual scope s.heap.objs.size f cd) e) (fun _ s''=>CX outer H s E e s'') (fun e' s''=>CX outer H s E e' s'') s'
theorem Zio {sc:Scope} {n:Nat} {x:Str} (h:sc.names.lookup x=some .cell):∃ c,(cellsFrom n sc.names []).lookup x=some c:=by
 have q:=PySem.W.cellsFrom_some sc.names n [] (.inl h)
 exact Option.isSome_iff_exists.mp q
theorem ZjM {CX:CXT} {P:Program} {w:World} {K:W.Frag} {mg:Str->Option Value} {base:Heap} {N ps:List Str} {qual:Str} {scope:Scope} {f:Addr} {cd:Value} {A:Around} {outer:List Env} {s s1:Shared} {H:Hp} {E:XK} {us:List Value} {vs:List V}
  (S:FnScope N ps scope) (hd:A.handled=none) (e0:Env0 P w K mg base A outer s H) (hl:vs.length=ps.length) (r:Vals vs us)
  (x:InCallC s s.heap.objs.size (bindL (envOfC qual scope s.heap.objs.size f cd).kindOf (ps.zip us) fun _=>none) (cellsFrom (s.heap.objs.size+1) scope.names []) (bindC (envOfC qual scope s.heap.objs.size f cd).kindOf (ps.zip us) fun _=>none) s1) :
  Inv (cxOf CX P w K mg base N qual scope f cd A outer s H E) [] (start N vs) H s1:=by
 have hpl:ps.length<=N.length:=by have:=congrArg List.length S.pre;rw[length_take] at this;lia
 obtain ⟨h1,tk,rfl,hk⟩:=x.done
 have noA:∀ b:Addr,b∉(cxOf CX P w K mg base N qual scope f cd A outer s H E).ex:=fun b z=>absurd (show b∈([]:List Addr) from z) (by simp)
 refine ⟨⟨e0.mod,S.kind,rfl,rfl,Nat.le_refl _,fun y z c h1 h2=>?_,fun y hy=>?_,fun y c _ h=>?_,fun _=>hd,Around.frames_deeper e0.frames,.inr ⟨rfl,rfl⟩,fun b z=>absurd z (noA b),e0.bs,e0.bsz,fun b _ _=>noA b,fun b z=>absurd z (noA b),e0.funs,e0.frf⟩,
  rfl,e0.bare,Un.kept hk,⟨_,x.toInCall.ns,fun i y v h1 h2 h3=>?_⟩,fun y c h=>⟨_,x.cell y c h⟩,e0.hok.fresh (Nat.le_refl _),fun y c h=>?_,fun p hp=>absurd (show p∈([]:List (Addr×Obj)) from hp) (by simp),e0.hok.kept hk,?_⟩
 ·exact name_of_addr x.apart (PySem.mem_of_lookup h1) (PySem.mem_of_lookup h2)
 ·have hy:scope.names.lookup y=some .cell\/scope.names.lookup y=some .free:=hy
  rcases hy with hy|hy
  ·exact Zio hy
  ·exact absurd rfl (S.nofree _ (PySem.mem_of_lookup hy))
 ·exact Nat.le_of_lt (x.above y c (PySem.mem_of_lookup h))
 ·have hi:i < vs.length:=by
   unfold start at h2
   by_cases hi:i < vs.length
   ·exact hi
   ·rw[getElem?_append_right (by simpa using hi)] at h2
    rw[getElem?_replicate] at h2
    split at h2 <;> cases h2
  have ha:vs[i]?=some v:=by
   unfold start at h2
   rw[getElem?_append_left (by simpa using hi),getElem?_map] at h2
   cases e:vs[i]? with
   | none=>rw[e] at h2;cases h2
   | some a=>rw[e] at h2;cases h2;rfl
  obtain ⟨u,hu,rv⟩:=r.get ha
  have hp:ps[i]?=some y:=by
   rw[<-S.pre,getElem?_take_of_lt (by lia)];exact h1
  have ndP:ps.Nodup:=by rw[<-S.pre];exact S.nd.sublist (take_sublist _ _)
  refine ⟨u,rv,?_⟩
  rcases S.par y (mem_of_getElem? hp) with k|k
  ·exact .inl ⟨k,Zg6 ndP hp hu k⟩
  ·obtain ⟨c,e⟩:=Zio (n:=s.heap.objs.size+1) k
   refine .inr ⟨.inl k,c,e,?_⟩
   have q:=x.cell y c e
   rw[Zg8 ndP hp hu (by show scope.names.lookup y≠_;rw[k];decide)] at q
   exact q
 ·exact e0.hok.fresh (Nat.le_of_lt (x.above y c (PySem.mem_of_lookup h)))
 ·unfold start
  show _=N.length
  rw[length_append,length_map,length_replicate]
  lia
theorem fn_of {CX:CXT} {P:Program} {w:World} {K:W.Frag} {mg:Str->Option Value} {base:Heap} {k:Nat} {f:Addr} {name qual:Str} {params:Arguments} {body:List Stmt} {scope:Scope} {dV kV doc pm cdv ct oc:Value} {an od:Option Addr}
  {osl:Array (Option Value)} {N ps:List Str} {sp:Sp} (lk:K.lookup f=some ⟨oc,od,.func (PySem.W.fnOf name qual params body scope dV kV doc pm an cdv ct),osl⟩) (hcd:PySem.W.codeIn K cdv qual=true) (S:FnScope N ps scope)
  (len:∀ vs H Q E,sp vs H Q E->vs.length=ps.length)
  (hbody:∀ (A:Around) (outer:List Env) (s:Shared) (H:Hp) (vs:List V) (Q:VK) (E:XK),Room k (A.deeper (envOfC qual scope s.heap.objs.size f cdv))->sp vs H Q E ->
   ∃ t,PSs (cxOf CX P w K mg base N qual scope f cdv A outer s H E) body t/\t { nx:=fun _ H'=>Q .non H',rt:=Q } (start N vs) H) :
  FnOk P w K mg base CX (k+1) f (PySem.W.fnOf name qual params body scope dV kV doc pm an cdv ct) ps sp:=by
 refine ⟨len,fun A outer s H args us vs Q E hr e0 hb r hsp=>?_⟩
 have hl:=len _ _ _ _ hsp
 have KX:K.In s.heap:=e0.mod.kin.keeps fun b o e=>(e0.bs b o e).1
 have lim:s.heap.NoLimit:=e0.mod.nolimit.keeps fun b o e=>(e0.bs b o e).1
 have hkind:∀ y∈ps.zip us,scope.names.lookup y.1=some .local\/(scope.names.lookup y.1=some .cell/\((cellsFrom (s.heap.objs.size+1) scope.names []).lookup y.1).isSome=true):=fun ⟨n,v⟩ hy=>by
  rcases S.par n (of_mem_zip hy).1 with q|q
  ·exact .inl q
  ·exact .inr ⟨q,PySem.W.cellsFrom_some _ _ _ (.inl q)⟩
 refine codeAny_call_function hr.depth (KX _ _ lk) rfl S.co S.gen rfl (PySem.W.codeRec_of KX hcd) (hb _ _ _ _ ?_)
 refine wpAny_newFunctionEnv_cells S.kind hkind fun env he s1 x=>?_
 subst he
 refine ⟨lim.keeps x.toInCall.keep,codeAny_func ?_⟩
 obtain ⟨t,ht,hq⟩:=hbody A outer s H vs Q E (hr.deeper _) hsp
 have I:Inv (cxOf CX P w K mg base N qual scope f cdv A outer s H E) [] (start N vs) H s1:=ZjM S hr.hd e0 hl r x
 refine wpAny_mono (ht [] s1 (start N vs) H _ I hq) (fun fl s' hs=>?_) fun e s' hs=>hs
 have fin:∀ {σ':St} {H':Hp} {v:V} {u:Value},Inv (cxOf CX P w K mg base N qual scope f cdv A outer s H E) [] σ' H' s'->RelV v u->Q v H'->CE outer P w H s Q u s' :=
  fun {σ' H' v u} J rv q=>⟨v,H',J.os,J.bare,J.base,J.hok,rv,q⟩
 cases fl with
 | ret u =>
  obtain ⟨v,σ',H',J,rv,q⟩:=hs
  exact fin J rv q
 | next =>
  obtain ⟨σ',H',J,q⟩:=hs
  exact fin (v:=V.non) (u:=Value.none) J rfl q
 | brk =>
  obtain ⟨_,_,_,q⟩:=hs
  exact False.elim q
 | cont =>
  obtain ⟨_,_,_,q⟩:=hs
  exact False.elim q
end L2
namespace L2
open PySem PySem.Spec PyProof.Rows
section
variable {X:Cx} {x:Str} {p pos:Pos} {e:Expr} {es:List Expr} {t:TA} {id T:String} {r:List V->Hp->VK->Prop}
def tCB (r:List V->Hp->VK->Prop) (t:TA):TE:=fun σ H Q=>t σ H fun vs H1=>r vs H1 Q
theorem Zbb (hc:Zdg X (.builtin id) r) (hg:Gl X x) (hm:X.mg x=none) (hv:bootBuiltins x=some (.builtin id)) (ha:PA X (e::es) t) (hn:x≠"__name__":=by decide) (hdb:(x == ("__debug__":Str))=false:=by decide)
  (he:starEach (e::es) X.env=(false,eval e X.env)::starEach es X.env:=by rfl) (hpl:(backTo pos (starEach es X.env)).any (·.1)=false:=by rfl):PE X (.Call (.Name x p) (e::es) [] pos) (tCB r t):=by
 intro pins s σ H Q I h
 refine wpAny_Call_Name_kw (Zic I hg hm hv ?_ hn hdb)
 exact PyProof.Rows.callWith_builtin1 (thn (ha pos pins s σ H _ I h) fun us s1 ⟨vs,H1,I1,r1,q1⟩=>hc pins s1 σ H1 vs us Q I1 r1 q1) he hpl
theorem Zbf (hc:Zdg X (.type T) r) (hg:Gl X x) (hm:X.mg x=none) (hv:bootBuiltins x=some (.type T)) (ha:PA X (e::es) t) (hn:x≠"__name__":=by decide) (hdb:(x == ("__debug__":Str))=false:=by decide)
  (he:starEach (e::es) X.env=(false,eval e X.env)::starEach es X.env:=by rfl) (hpl:(backTo pos (starEach es X.env)).any (·.1)=false:=by rfl):PE X (.Call (.Name x p) (e::es) [] pos) (tCB r t):=by
 intro pins s σ H Q I h
 refine wpAny_Call_Name_kw (Zic I hg hm hv ?_ hn hdb)
 exact PyProof.Rows.callWith_type1 (thn (ha pos pins s σ H _ I h) fun us s1 ⟨vs,H1,I1,r1,q1⟩=>hc pins s1 σ H1 vs us Q I1 r1 q1) he hpl
end
end L2
namespace HT
open PySem PyProof.Rows
section
variable {prog:Program} {w:World} {A:Around} {E:Value->Shared->Prop} {s:Shared}
def sIx (n d:Nat):Option Int->Nat
 | none=>d
 | some v=>if v < 0 then (v+(n:Int)).toNat else min v.toNat n
theorem Zhg (n d k:Nat):sIx n d (some (k:Int))=min k n:=by
 show (if (k:Int) < 0 then ((k:Int)+(n:Int)).toNat else min (k:Int).toNat n)=min k n
 rw[if_neg (by lia),Int.toNat_natCast]
theorem sIx_le (n d:Nat) (hd:d<=n) (o:Option Int):sIx n d o<=n:=by
 cases o with
 | none=>exact hd
 | some v =>
  show (if v < 0 then (v+(n:Int)).toNat else min v.toNat n)<=n
  by_cases hv:v < 0
  ·rw[if_pos hv];lia
  ·rw[if_neg hv];exact Nat.min_le_right _ _
theorem Zj0 (v:Int) (n d:Nat):(if v < 0 then max (v+(n:Int)) 0 else min v (n:Int))=((sIx n d (some v):Nat):Int):=by
 show (if v < 0 then max (v+(n:Int)) 0 else min v (n:Int))=(((if v < 0 then (v+(n:Int)).toNat else min v.toNat n):Nat):Int)
 by_cases hv:v < 0
 ·simp only[if_pos hv];lia
 ·simp only[if_neg hv];lia
theorem ZiU (lo hi:Option Int) (n:Nat):Builtin.Slice.sliceAdjust lo hi 1 (n:Int)=(((sIx n 0 lo:Nat):Int),((sIx n n hi:Nat):Int)):=by
 have h1:¬ ((1:Int) < 0):=by lia
 unfold Builtin.Slice.sliceAdjust
 simp only[h1,if_false]
 refine Prod.ext ?_ ?_
 ·cases lo with
  | none=>rfl
  | some v=>exact Zj0 v n 0
 ·cases hi with
  | none=>rfl
  | some v=>exact Zj0 v n n
theorem ZiA (i j:Nat):Builtin.Slice.slicePlaces (i:Int) (j:Int) 1=j - i:=by
 unfold Builtin.Slice.slicePlaces
 have h1:(1:Int) > 0:=by lia
 simp only[h1,if_true,Int.ediv_one]
 split <;> lia
theorem Zfu {v:Value} {o:Option Int} {Q:Option Int->Shared->Prop} (p:IsPart v o) (h:Q o s):wpAny (model prog w) A (Builtin.Slice.slicePartIndex v) Q E s:=by
 cases p with
 | none=>exact slicePart_none h
 | int i t=>exact slicePart_int h
theorem Zde {sl:Addr} {vl vu:Value} {lo hi:Option Int} {n:Nat} {Q:Int×Int×Nat->Shared->Prop} (hs:s.heap.IsSliceOf sl vl vu .none) (pl:IsPart vl lo) (pu:IsPart vu hi)
  (h:Q (((sIx n 0 lo:Nat):Int),1,sIx n n hi - sIx n 0 lo) s):wpAny (model prog w) A (Builtin.Slice.sliceApplied (.ref sl) (pure (n:Int))) Q E s:=by
 obtain ⟨os,hos,hcs,hds⟩:=id hs
 unfold Builtin.Slice.sliceApplied Builtin.Slice.sliceFields
 refine wpAny_bind (wpAny_bind (wpAny_field hos hds (x:=vl) rfl (wpAny_bind (wpAny_field hos hds (x:=vu) rfl (wpAny_bind (wpAny_field hos hds (x:=.none) rfl (wpAny_pure ?_)))))))
 refine wpAny_bind (slicePart_none ?_)
 show wpAny _ _ (if ((1:Int) == 0)=true then _ else _) _ _ s
 rw[if_neg (by decide)]
 refine wpAny_bind (Zfu pl (wpAny_bind (Zfu pu (wpAny_bind (wpAny_pure ?_)))))
 show wpAny _ _ (match Builtin.Slice.sliceAdjust lo hi 1 (n:Int) with|(lo,hi)=>pure (lo,(1:Int),Builtin.Slice.slicePlaces lo hi 1)) _ _ s
 rw[ZiU lo hi n]
 show wpAny _ _ (pure (((sIx n 0 lo:Nat):Int),(1:Int),Builtin.Slice.slicePlaces ((sIx n 0 lo:Nat):Int) ((sIx n n hi:Nat):Int) 1)) _ _ s
 rw[ZiA]
 exact wpAny_pure h
theorem ZkC (xs:Array Value) (i k:Nat):((List.range k).filterMap fun (m:Nat)=>xs[((i:Int)+(m:Int) * 1).toNat]?).toArray=((xs.toList.drop i).take k).toArray:=by
 have e:(fun (m:Nat)=>xs[((i:Int)+(m:Int) * 1).toNat]?)=fun m=>xs[i+m]?:=by
  funext m
  have:((i:Int)+(m:Int) * 1).toNat=i+m:=by lia
  rw[this]
 rw[e]
 have:=pick_run xs i k
 rw[filterMap_map] at this
 have e2:((fun x=>xs[x]?) ∘ fun x=>i+x)=fun m=>xs[i+m]?:=rfl
 rw[e2] at this
 rw[this]
theorem getItem_tuple_cut {t sl:Addr} {items:Array Value} {vl vu:Value} {lo hi:Option Int} {Q:Value->Shared->Prop} (ht:IsTup s.heap t items) (hs:s.heap.IsSliceOf sl vl vu .none) (pl:IsPart vl lo) (pu:IsPart vu hi)
  (hw:¬ (sIx items.size 0 lo=0/\sIx items.size items.size hi=items.size))
  (h:Q (.ref s.heap.objs.size) { s with heap:=s.heap.push { cls:=.type "tuple",data:=.seq ((items.toList.drop (sIx items.size 0 lo)).take (sIx items.size items.size hi - sIx items.size 0 lo)).toArray } })
  (hsz:items.size<=sizeLine):wpAny (model prog w) A (getItem (.ref t) (.ref sl)) Q E s:=by
 have htake:sizeOk (.seq ((items.toList.drop (sIx items.size 0 lo)).take (sIx items.size items.size hi - sIx items.size 0 lo)).toArray):=by
  show ((items.toList.drop (sIx items.size 0 lo)).take (sIx items.size items.size hi - sIx items.size 0 lo)).toArray.size<=sizeLine
  rw[size_toArray,length_take,length_drop,Array.length_toList]
  lia
 have hj:sIx items.size items.size hi<=items.size:=sIx_le _ _ (Nat.le_refl _) hi
 obtain ⟨os,hos,hcs,hds⟩:=id hs
 have hTs:s.TypeIs (.ref sl) "slice":=⟨os,hos,hcs⟩
 unfold getItem
 try with_reducible refine wpAny_holding ?_
 first|refine wpAny_bind (wpAny_pure ?_)|skip
 refine wpAny_bind (wpAny_sequenceKey ht.typeIs (by decide) ?_)
 refine wpAny_bind (wpAny_callSpecial?_slot (name:=Str.ofString "__getitem__") ht.typeIs PyProof.Rows.slot_tuple_getitem
  (wpAny_call_entry PyProof.Rows.slot_tuple_getitem ht.typeIs entry_tuple_getitem ?_ (args_tuple_getitem _ _)))
 show wpAny _ _ (Builtin.Tuple.tupleItemsOf (.ref t) >>= _) _ _ s
 refine wpAny_bind (tupleItemsOf_ ht ?_)
 refine wpAny_bind (wpAny_typeOf hTs ?_)
 rw[if_pos (by decide)]
 refine wpAny_bind (Zde hs pl pu ?_)
 have hno:¬ ((((sIx items.size 0 lo:Nat):Int) == 0 && (1:Int) == 1 && (sIx items.size items.size hi - sIx items.size 0 lo) == items.size)=true):=by
  intro q
  rw[Bool.and_eq_true,Bool.and_eq_true] at q
  have q1:((sIx items.size 0 lo:Nat):Int)=0:=eq_of_beq q.1.1
  have q2:sIx items.size items.size hi - sIx items.size 0 lo=items.size:=eq_of_beq q.2
  exact hw ⟨by lia,by lia⟩
 show wpAny _ _ (if (((sIx items.size 0 lo:Nat):Int) == 0 && (1:Int) == 1 && (sIx items.size items.size hi - sIx items.size 0 lo) == items.size)=true then _ else _) _ _ s
 rw[if_neg hno,ZkC]
 first
  | exact wpAny_bind (m:=Builtin.Tuple.tupleExact _) (wpAny_newObj_type (wpAny_pure ⟨_,rfl,wpAny_pure h⟩) htake)
  | exact wpAny_bind (m:=Builtin.Tuple.tupleExact _) (wpAny_newObj_type (wpAny_bind (wpAny_pure (wpAny_pure ⟨_,rfl,wpAny_pure h⟩))) htake)
  | exact wpAny_bind (wpAny_bind (m:=Builtin.Tuple.tupleExact _) (wpAny_newObj_type (wpAny_pure (wpAny_pure ⟨_,rfl,wpAny_pure h⟩)) htake))
  | exact wpAny_bind (wpAny_bind (m:=Builtin.Tuple.tupleExact _) (wpAny_newObj_type (wpAny_pure ⟨_,rfl,wpAny_pure h⟩) htake))
end
end HT
namespace L2
open PySem PySem.Spec PyProof.Rows
abbrev TO:=St->Hp->(Option Int->Hp->Prop)->Prop
def PO (X:Cx) (e:Option Expr) (t:TO):Prop :=
 ∀ (pins:List (Addr×Obj)) (s:Shared) (σ:St) (H:Hp) (Q:Option Int->Hp->Prop),Inv X pins σ H s->t σ H Q ->
  wpAny (model X.prog X.w) X.A (evalPart e X.env) (fun u s'=>∃ o H',Inv X pins σ H' s'/\IsPart u o/\Q o H') X.xe s
def Zi2:TO:=fun _ H Q=>Q none H
def tPart (t:TE):TO:=fun σ H Q=>t σ H fun x H1=>∃ i,x=.int i/\Q (some i) H1
theorem ZiI {ns:List Int}:∀ {us:List Value},Vals (ns.map V.int) us->IntsAre us ns:=by
 induction ns with
 | nil=>intro us r;rw[map_nil] at r;cases r;exact .nil
 | cons n ns ih =>
  intro us r
  rw[map_cons] at r
  cases r with
  | cons r1 r2 =>
   obtain ⟨t,e⟩:=r1
   subst e
   exact .cons n t (ih r2)
section
variable {X:Cx} {e:Expr} {te:TE} {lo hi:Option Expr} {tl th:TO} {pos p2:Pos}
theorem Zdn:PO X none Zi2:=by
 intro pins s σ H Q I h
 rw[evalPart_none]
 exact wpAny_pure ⟨none,H,I,.none,h⟩
theorem Zdm (h:PE X e te):PO X (some e) (tPart te):=by
 intro pins s σ H Q I hw
 rw[evalPart_some]
 refine thn (h pins s σ H _ I hw) fun u s1 ⟨x,H1,I1,r1,q1⟩=>?_
 obtain ⟨i,rfl,q⟩:=q1
 obtain ⟨t,rfl⟩:=r1
 exact ⟨some i,H1,I1,.int i t,q⟩
def SlR (X:Cx) (r:V->Option Int->Option Int->Hp->VK->Prop):Prop :=
 ∀ (pins:List (Addr×Obj)) (s:Shared) (σ:St) (H:Hp) (x:V) (v vl vu:Value) (lo hi:Option Int) (sl:Addr) (Q:VK),Inv X pins σ H s->RelV x v->s.heap.IsSliceOf sl vl vu .none->IsPart vl lo->IsPart vu hi->r x lo hi H Q ->
  ∃ T id,typeLookup (.type T) "__getitem__"=pure (some (.builtin id))/\s.TypeIs v T/\wpAny (model X.prog X.w) X.A (getItem v (.ref sl)) (EP X pins σ Q) X.xe s
def tSl (r:V->Option Int->Option Int->Hp->VK->Prop) (te:TE) (tl th:TO):TE:=fun σ H Q=>te σ H fun x H1=>tl σ H1 fun l H2=>th σ H2 fun u H3=>r x l u H3 Q
theorem ZcG {r:V->Option Int->Option Int->Hp->VK->Prop} (hr:SlR X r) (he:PE X e te) (hl:PO X lo tl) (hu:PO X hi th):PE X (.Subscript e (.Slice lo hi none p2) pos) (tSl r te tl th):=by
 intro pins s σ H Q I h
 refine Subscript_ (thn (he pins s σ H _ I h) fun v s1 ⟨x,H1,I1,r1,q1⟩=>?_)
 refine wpAny_Slice (thn (hl pins s1 σ H1 _ I1 q1) fun vl s2 ⟨l,H2,I2,pl,q2⟩=>thn (hu pins s2 σ H2 _ I2 q2) fun vu s3 ⟨u,H3,I3,pu,q3⟩=>?_)
 rw[evalPart_none]
 refine wpAny_pure ?_
 have I4:Inv X pins σ H3 { s3 with heap:=s3.heap.push { cls:=.type "slice",data:=.fields #[vl,vu,.none] } }:=I3.kept (t':=s3.toks) fun b ob q=>Heap.get?_push_of_some _ q
 obtain ⟨T,id,hT,ht,hg⟩:=hr pins { s3 with heap:=s3.heap.push { cls:=.type "slice",data:=.fields #[vl,vu,.none] } } σ H3 x v vl vu l u s3.heap.objs.size Q I4 r1 (Heap.IsSliceOf.new ..) pl pu q3
 show wpAny (model X.prog X.w) X.A (subscriptTail e (.Slice lo hi none p2) v (.ref s3.heap.objs.size)) (EP X pins σ Q) X.xe { s3 with heap:=s3.heap.push { cls:=.type "slice",data:=.fields #[vl,vu,.none] } }
 exact tail_any (ops:=[.ref s3.heap.objs.size,v]) ht hT hg (by with_unfolding_all rfl)
def cutV (xs:List V) (lo hi:Option Int):List V:=(xs.drop (HT.sIx xs.length 0 lo)).take (HT.sIx xs.length xs.length hi - HT.sIx xs.length 0 lo)
theorem Zfd (xs:List V) (lo hi:Option Int):(cutV xs lo hi).length<=xs.length:=by
 unfold cutV
 rw[length_take,length_drop]
 lia
def rSlT (K:W.Frag):V->Option Int->Option Int->Hp->VK->Prop:=fun x lo hi H Q=>∃ a xs,x=.ref a/\SqT K H a xs /\
 ¬ (HT.sIx xs.length 0 lo=0/\HT.sIx xs.length xs.length hi=xs.length)/\∀ p,H p=none->Q (.ref p) (upd H p (.tup (cutV xs lo hi)))
theorem sl_tup:SlR X (rSlT X.K):=by
 intro pins s σ H x v vl vu lo hi sl Q I rx hs pl pu h
 obtain ⟨a,xs,rfl,hx,hw,q⟩:=h
 cases rx
 obtain ⟨its,r,ht,hz⟩:=I.tuple hx
 have hlen:its.toArray.size=xs.length:=by rw[size_toArray];exact r.length.symm
 refine ⟨"tuple",_,PyProof.Rows.slot_tuple_getitem.lookup,ht.typeIs,?_⟩
 refine HT.getItem_tuple_cut ht hs pl pu (by rw[hlen];exact hw) ?_ (by rw[hlen];exact hz)
 rw[hlen]
 refine ⟨.ref s.heap.objs.size,_,I.laid (t':=s.toks) (o:=.tup (cutV xs lo hi)) (fun b ob q=>Heap.get?_push_of_some _ q) (Nat.le_refl _) ?_,rfl,q _ (I.hok.fresh (Nat.le_refl _))⟩
 exact ⟨Nat.le_trans (Zfd xs lo hi) hz,_,(r.drop (HT.sIx xs.length 0 lo)).take (HT.sIx xs.length xs.length hi - HT.sIx xs.length 0 lo),IsTup.new _ _⟩
end
end L2
namespace L2
open PySem PySem.Spec PyProof.Rows
def ixN (n:Nat) (i:Int):Option Nat:=if 0<=i then (if i < n then some i.toNat else none) else if -(n:Int)<=i then some (i+n).toNat else none
def atI {α:Type} (xs:List α) (i:Int):Option α:=(ixN xs.length i).bind fun j=>xs[j]?
theorem ZjL {n:Nat} {i:Int} {j:Nat} (h:ixN n i=some j):seqIndex? i n=some j/\j < n/\-(n:Int)<=i/\i < n:=by
 unfold ixN at h
 by_cases h0:0<=i
 ·rw[if_pos h0] at h
  by_cases h1:i < n
  ·rw[if_pos h1] at h
   have e:i.toNat=j:=Option.some.inj h
   exact ⟨by rw[seqIndex_of h0 h1,e],by lia,by lia,h1⟩
  ·rw[if_neg h1] at h;cases h
 ·rw[if_neg h0] at h
  by_cases h1:-(n:Int)<=i
  ·rw[if_pos h1] at h
   have e:(i+n).toNat=j:=Option.some.inj h
   exact ⟨by rw[seqIndex_neg (by lia) h1,e],by lia,h1,by lia⟩
  ·rw[if_neg h1] at h;cases h
theorem Zkk {α:Type} {xs:List α} {i:Int} {v:α} (h:atI xs i=some v):∃ j,seqIndex? i xs.length=some j/\xs[j]?=some v/\j < xs.length/\-(xs.length:Int)<=i/\i < xs.length:=by
 unfold atI at h
 cases e:ixN xs.length i with
 | none=>rw[e] at h;cases h
 | some j =>
  rw[e] at h
  obtain ⟨h1,h2,h3,h4⟩:=ZjL e
  exact ⟨j,h1,h,h2,h3,h4⟩
theorem Zlg {α:Type} (xs:List α) (v:α):atI (xs++[v]) (-1)=some v:=by
 have hl:(xs++[v]).length=xs.length+1:=by simp
 have e:ixN (xs++[v]).length (-1)=some xs.length:=by
  unfold ixN
  rw[hl,if_neg (by decide),if_pos (by lia)]
  congr 1
  lia
 unfold atI
 rw[e]
 show (xs++[v])[xs.length]?=some v
 simp
def ZmR (b:Expr):Prop:=∀ o i,subscripted b false o i=operate [o,i] (getItem o i)
def IxR (X:Cx) (r:R2):Prop :=
 ∀ (value slice:Expr) (pins:List (Addr×Obj)) (s:Shared) (σ:St) (H:Hp) (x y:V) (v u:Value) (Q:VK),Inv X pins σ H s->RelV x v->RelV y u->r x y H Q ->
  subscripted slice false v u=operate [v,u] (getItem v u)->wpAny (model X.prog X.w) X.A (subscriptTail value slice v u) (EP X pins σ Q) X.xe s
def MtR (X:Cx) (id:String) (r:V->List V->Hp->VK->Prop):Prop :=
 ∀ (pins:List (Addr×Obj)) (s:Shared) (σ:St) (H:Hp) (x:V) (xs:List V) (v:Value) (us:List Value) (Q:VK),Inv X pins σ H s->RelV x v->Vals xs us->r x xs H Q ->
  wpAny (model X.prog X.w) X.A (call (.builtin id) (v::us)) (EP X pins σ Q) X.xe s
section
variable {X:Cx} {a b:Expr} {ta tb:TE} {pos:Pos}
theorem IxR.or {r r':R2} (h:IxR X r) (h':IxR X r'):IxR X (fun x y H Q=>r x y H Q\/r' x y H Q):=by
 intro value slice pins s σ H x y v u Q I rx ry q hs
 rcases q with q|q
 ·exact h value slice pins s σ H x y v u Q I rx ry q hs
 ·exact h' value slice pins s σ H x y v u Q I rx ry q hs
theorem Zai {r:R2} (hr:IxR X r) (ha:PE X a ta) (hb:PE X b tb) (hs:ZmR b):PE X (.Subscript a b pos) (tOp r ta tb):=by
 intro pins s σ H Q I h
 exact Subscript_ (binT ha hb I h fun v u s2 x y H2 I2 rx ry q=>hr a b pins s2 σ H2 x y v u Q I2 rx ry q (hs _ _))
def rIxL (K:W.Frag):R2:=fun x y H Q=>∃ p xs i v,x=.ref p/\y=.int i/\SqL K H p xs/\atI xs i=some v/\Q v H
def rIxT (K:W.Frag):R2:=fun x y H Q=>∃ p xs i v,x=.ref p/\y=.int i/\SqT K H p xs/\atI xs i=some v/\Q v H
theorem ix_list:IxR X (rIxL X.K):=by
 intro value slice pins s σ H x y v u Q I rx ry h hs
 obtain ⟨p,xs,i,z,rfl,rfl,hq,he,q⟩:=h
 cases rx
 obtain ⟨t,rfl⟩:=ry
 obtain ⟨its,r,pl,hz⟩:=I.list hq
 obtain ⟨j,h1,h2,h3,h4,h5⟩:=Zkk he
 obtain ⟨w,ew,rw'⟩:=r.get h2
 have hl:=r.length
 have hn:=ZgD
 have fin:EP X pins σ Q w s:=⟨z,H,I,rw',q⟩
 by_cases h0:0<=i
 ·have hj:i.toNat=j:=by
   rw[seqIndex_of h0 h5] at h1
   exact Option.some.inj h1
  exact item_listR pl.isList h0 (by lia) (by rw[hj];simpa using ew) fin hs
 ·have hj:(i+(its.toArray.size:Int)).toNat=j:=by
   rw[seqIndex_neg (by lia) h4] at h1
   rw[size_toArray,<- hl]
   exact Option.some.inj h1
  exact subscriptTail_builtinR (x:=w) pl.isList.typeIs slot_list_getitem.lookup
   (wpAny_getItem_list_neg (Q:=fun r s'=>r=w/\EP X pins σ Q r s') pl.isList (by lia) (by rw[size_toArray] <;> lia) (by lia) (by rw[hj];simpa using ew) ⟨rfl,fin⟩) hs
theorem ix_tup:IxR X (rIxT X.K):=by
 intro value slice pins s σ H x y v u Q I rx ry h hs
 obtain ⟨p,xs,i,z,rfl,rfl,hq,he,q⟩:=h
 cases rx
 obtain ⟨t,rfl⟩:=ry
 obtain ⟨its,r,pl,hz⟩:=I.tuple hq
 obtain ⟨j,h1,h2,h3,h4,h5⟩:=Zkk he
 obtain ⟨w,ew,rw'⟩:=r.get h2
 have hl:=r.length
 have hn:=ZgD
 have fin:EP X pins σ Q w s:=⟨z,H,I,rw',q⟩
 exact subscriptTail_builtinR (x:=w) pl.typeIs slot_tuple_getitem.lookup
  (getItem_tuple (j:=j) (Q:=fun r s'=>r=w/\EP X pins σ Q r s') pl (by lia) (by lia) (by rw[size_toArray,<- hl];exact h1) (by simpa using ew) ⟨rfl,fin⟩) hs
theorem ZiC (its:List Value) (n j:Nat) (u:Value):Obj.mapSeq (·.setIfInBounds j u) { cls:=.type "list",data:=.seq its.toArray n }={ cls:=.type "list",data:=.seq (its.set j u).toArray n }:=by
 simp[Obj.mapSeq]
theorem Inv.lst {pins:List (Addr×Obj)} {σ:St} {H:Hp} {s:Shared} {p:Addr} {xs:List V} (I:Inv X pins σ H s) (h:H p=some (.lst xs)) :
  ∃ (its:List Value) (n:Nat),Vals xs its/\s.heap.get? p=some { cls:=.type "list",data:=.seq its.toArray n }/\xs.length<=sizeLine:=by
 obtain ⟨z,its,n,r,e⟩:=I.hok p _ h
 exact ⟨its,n,r,e,z⟩
theorem Inv.lstUpd {pins:List (Addr×Obj)} {σ:St} {H:Hp} {s:Shared} {p:Addr} {xs ys:List V} {its its':List Value} {n n':Nat} {f:Obj->Obj} (I:Inv X pins σ H s) (h:H p=some (.lst xs))
  (ho:s.heap.get? p=some { cls:=.type "list",data:=.seq its.toArray n }) (hf:f { cls:=.type "list",data:=.seq its.toArray n }={ cls:=.type "list",data:=.seq its'.toArray n' }) (r:Vals ys its') (hz:ys.length<=sizeLine) (t:Nat) :
  Inv X pins σ (upd H p (.lst ys)) { s with heap:=s.heap.update p f,toks:=t }:=by
 have e:(s.heap.update p f).get? p=some { cls:=.type "list",data:=.seq its'.toArray n' }:=by
  rw[Heap.get?_update_self f ho (by rw[hf] <;> rfl),hf]
 refine I.write (x:=p) (e:=p) (by rw[h];trivial) (.inl rfl) (fun b u hb q=>(Heap.get?_update_other _ _ (Ne.symm hb)).trans q) ⟨_,e⟩ ?_
 exact ⟨hz,its',n',r,e⟩
def Zco:V->V->V->Hp->(Hp->Prop)->Prop:=fun o i v H Q=>∃ p xs k j,o=.ref p/\i=.int k/\H p=some (.lst xs)/\ixN xs.length k=some j/\Q (upd H p (.lst (xs.set j v)))
theorem ZaO:PSet X Zco:=by
 intro pins s σ H o i v ov iv u Q I ro ri rv h
 obtain ⟨p,xs,k,j,rfl,rfl,hp,hj,q⟩:=h
 cases ro
 obtain ⟨t,rfl⟩:=ri
 obtain ⟨its,n,r,ho,hz⟩:=I.lst hp
 obtain ⟨h1,h2,h3,h4⟩:=ZjL hj
 have hl:=r.length
 have hn:=ZgD
 have I':Inv X pins σ (upd H p (.lst (xs.set j v))) { s with heap:=s.heap.update p (Obj.mapSeq (·.setIfInBounds j u)) } :=
  I.lstUpd hp ho (ZiC its n j u) (r.set rv j) (by rw[length_set];exact hz) s.toks
 by_cases h0:0<=k
 ·have hk:k.toNat=j:=by
   rw[seqIndex_of h0 h4] at h1
   exact Option.some.inj h1
  exact PySem.W.ki_setAt ho h0 (by lia) (by rw[size_toArray,<- hl];exact h4) (by rw[hk];exact ⟨_,I',q⟩)
 ·have hk:(k+(its.toArray.size:Int)).toNat=j:=by
   rw[seqIndex_neg (by lia) h3] at h1
   rw[size_toArray,<- hl]
   exact Option.some.inj h1
  exact PySem.W.ki_setBack ho (by lia) (by rw[size_toArray,<- hl];exact h3) (by lia) (by rw[hk];exact ⟨_,I',q⟩)
theorem Zgt (lo hi:Option Int) (n:Nat):(sliceBounds lo hi none n).1=((HT.sIx n 0 lo:Nat):Int)/\(sliceBounds lo hi none n).2.1=((HT.sIx n n hi:Nat):Int)/\(sliceBounds lo hi none n).2.2=1:=by
 refine ⟨?_,?_,rfl⟩
 ·cases lo with
  | none=>simp[sliceBounds,HT.sIx]
  | some i =>
   simp only[sliceBounds,HT.sIx,Option.getD_none,show (1:Int) > 0 by decide,if_true]
   by_cases h:i < 0
   ·simp only[h,if_true] <;> lia
   ·simp only[h,if_false] <;> lia
 ·cases hi with
  | none=>simp[sliceBounds,HT.sIx]
  | some i =>
   simp only[sliceBounds,HT.sIx,Option.getD_none,show (1:Int) > 0 by decide,if_true]
   by_cases h:i < 0
   ·simp only[h,if_true] <;> lia
   ·simp only[h,if_false] <;> lia
theorem ZfH (its:List Value) (lo hi:Option Int):slicePick its.toArray lo hi none=((its.drop (HT.sIx its.length 0 lo)).take (HT.sIx its.length its.length hi - HT.sIx its.length 0 lo)).toArray:=by
 obtain ⟨h1,h2,h3⟩:=Zgt lo hi its.toArray.size
 unfold slicePick
 rw[h1,h2,h3]
 simp only[sliceRange_one,pick_run,size_toArray] <;> rfl
def rSlL (K:W.Frag):V->Option Int->Option Int->Hp->VK->Prop:=fun x lo hi H Q=>∃ a xs,x=.ref a/\SqL K H a xs/\∀ p,H p=none->Q (.ref p) (upd H p (.lst (cutV xs lo hi)))
theorem ZlR:SlR X (rSlL X.K):=by
 intro pins s σ H x v vl vu lo hi sl Q I rx hs pl pu h
 obtain ⟨a,xs,rfl,hx,q⟩:=h
 cases rx
 obtain ⟨its,r,ht,hz⟩:=I.list hx
 have hlen:=r.length
 refine ⟨"list",_,slot_list_getitem.lookup,ht.isList.typeIs,?_⟩
 refine wpAny_getItem_list_slice ht.isList hs pl pu .none (by simp) ?_ (by rw[size_toArray] <;> lia)
 rw[ZfH,<- hlen]
 refine ⟨.ref s.heap.objs.size,_,I.laid (t':=s.toks) (o:=.lst (cutV xs lo hi)) (fun b ob q=>Heap.get?_push_of_some _ q) (Nat.le_refl _) ?_,rfl,q _ (I.hok.fresh (Nat.le_refl _))⟩
 exact ⟨Nat.le_trans (Zfd xs lo hi) hz,_,0,(r.drop (HT.sIx xs.length 0 lo)).take (HT.sIx xs.length xs.length hi - HT.sIx xs.length 0 lo),Heap.get?_push_size _ rfl⟩
def Zfj:V->Bool
 | .non=>true
 | .bl _=>true
 | .int _=>true
 | .str _=>true
 | _=>false
def eqV:V->V->Bool
 | .non,.non=>true
 | .bl a,.bl b=>a == b
 | .bl a,.int b=>(if a then 1 else 0) == b
 | .int a,.bl b=>a == (if b then 1 else 0)
 | .int a,.int b=>a == b
 | .str a,.str b=>a == b
 | _,_=>false
theorem eqAt_V {A:Around} {s:Shared} {y x:V} {u v:Value} (ry:RelV y u) (rx:RelV x v) (fy:Zfj y=true) (fx:Zfj x=true):SeqAt.EqAt A s u v (eqV y x):=by
 cases y with
 | non =>
  cases ry
  cases x with
  | non=>cases rx;exact SeqAt.EqAt.same _
  | bl b=>cases rx;exact SeqAt.EqAt.none_bool b
  | int b=>obtain ⟨t,rfl⟩:=rx;exact SeqAt.EqAt.none_int b t
  | str b=>obtain ⟨t,rfl⟩:=rx;exact SeqAt.EqAt.none_str b t
  | _=>exact absurd (show false=true from fx) Bool.false_ne_true
 | bl a =>
  cases ry
  cases x with
  | non=>cases rx;exact SeqAt.EqAt.bool_none a
  | bl b=>cases rx;exact SeqAt.EqAt.bool_bool a b
  | int b=>obtain ⟨t,rfl⟩:=rx;exact SeqAt.EqAt.bool_int a b t
  | str b=>obtain ⟨t,rfl⟩:=rx;exact SeqAt.EqAt.bool_str a b t
  | _=>exact absurd (show false=true from fx) Bool.false_ne_true
 | int a =>
  obtain ⟨t',rfl⟩:=ry
  cases x with
  | non=>cases rx;exact SeqAt.EqAt.int_none a t'
  | bl b=>cases rx;exact SeqAt.EqAt.int_bool a t' b
  | int b=>obtain ⟨t,rfl⟩:=rx;exact SeqAt.EqAt.int_int a t' b t
  | str b=>obtain ⟨t,rfl⟩:=rx;exact SeqAt.EqAt.int_str a t' b t
  | _=>exact absurd (show false=true from fx) Bool.false_ne_true
 | str a =>
  obtain ⟨t',rfl⟩:=ry
  cases x with
  | non=>cases rx;exact SeqAt.EqAt.str_none a t'
  | bl b=>cases rx;exact SeqAt.EqAt.str_bool a t' b
  | int b=>obtain ⟨t,rfl⟩:=rx;exact SeqAt.EqAt.str_int a t' b t
  | str b=>obtain ⟨t,rfl⟩:=rx;exact SeqAt.EqAt.str_str a t' b t
  | _=>exact absurd (show false=true from fx) Bool.false_ne_true
 | _=>exact absurd (show false=true from fy) Bool.false_ne_true
def eqU (x:V) (u:Value):Bool:=match u with
 | .none=>eqV .non x
 | .bool b=>eqV (.bl b) x
 | .int i _=>eqV (.int i) x
 | .str z _=>eqV (.str z) x
 | _=>false
theorem ZlF {x y:V} {u:Value} (r:RelV y u) (f:Zfj y=true):eqU x u=eqV y x:=by
 cases y with
 | non=>cases r;rfl
 | bl b=>cases r;rfl
 | int i=>obtain ⟨t,rfl⟩:=r;rfl
 | str z=>obtain ⟨t,rfl⟩:=r;rfl
 | _=>exact absurd (show false=true from f) Bool.false_ne_true
theorem Zff {x : V} : ∀ {xs : List V} {us : List Value}, Vals xs us -> xs.all Zfj = true -> us.any (eqU x) = xs.any fun y => eqV y x
  | _, _, .nil, _ => rfl
  | y :: xs, u :: us, .cons r t, f => by
    rw[all_cons,Bool.and_eq_true] at f
    rw[any_cons, any_cons, ZlF r f.1, Zff t f.2]
theorem Zem {A : Around} {s : Shared} {x : V} {v : Value} (rx : RelV x v) (fx : Zfj x = true) : ∀ {xs : List V} {us : List Value}, Vals xs us -> xs.all Zfj = true -> ∀ u ∈ us, SeqAt.EqAt A s u v (eqU x u)
  | _, _, .nil, _ => fun u hu => by cases hu
  | y :: xs, u :: us, .cons r t, f => fun u' hu => by
    rw[all_cons,Bool.and_eq_true] at f
    rcases mem_cons.mp hu with rfl|hu
    · rw[ZlF r f.1]; exact eqAt_V r rx f.1 fx
    · exact Zem rx fx t f.2 u' hu
def inV (x:V) (xs:List V):Bool:=xs.any fun y=>eqV y x
def rIn (K:W.Frag) (neg:Bool):R2:=fun x y H Q=>∃ p xs,y=.ref p/\(SqL K H p xs\/SqT K H p xs)/\Zfj x=true/\xs.all Zfj=true/\Q (.bl (if neg then !inV x xs else inV x xs)) H
theorem ZjC:OpR X (compareOp .In) (rIn X.K false):=by
 intro pins s σ H x y v u Q I rx ry h
 obtain ⟨p,xs,rfl,hq,fx,fs,q⟩:=h
 cases ry
 rcases hq with hq|hq
 ·obtain ⟨its,r,pl,hz⟩:=I.list hq
  refine SeqAt.in_listAt (eqU x) pl.isList (fun w hw=>Zem rx fx r fs w (by simpa using hw)) ⟨.bl _,H,I,rfl,?_⟩
  rw[show its.toArray.any (eqU x)=its.any (eqU x) by simp,Zff r fs]
  exact q
 ·obtain ⟨its,r,pl,hz⟩:=I.tuple hq
  refine SeqAt.in_tupleAt (eqU x) pl (fun w hw=>Zem rx fx r fs w (by simpa using hw)) ⟨.bl _,H,I,rfl,?_⟩
  rw[show its.toArray.any (eqU x)=its.any (eqU x) by simp,Zff r fs]
  exact q
theorem ZgA:OpR X (compareOp .NotIn) (rIn X.K true):=by
 intro pins s σ H x y v u Q I rx ry h
 obtain ⟨p,xs,rfl,hq,fx,fs,q⟩:=h
 cases ry
 rcases hq with hq|hq
 ·obtain ⟨its,r,pl,hz⟩:=I.list hq
  refine SeqAt.notIn_listAt (eqU x) pl.isList (fun w hw=>Zem rx fx r fs w (by simpa using hw)) ⟨.bl _,H,I,rfl,?_⟩
  rw[show its.toArray.any (eqU x)=its.any (eqU x) by simp,Zff r fs]
  exact q
 ·obtain ⟨its,r,pl,hz⟩:=I.tuple hq
  refine SeqAt.notIn_tupleAt (eqU x) pl (fun w hw=>Zem rx fx r fs w (by simpa using hw)) ⟨.bl _,H,I,rfl,?_⟩
  rw[show its.toArray.any (eqU x)=its.any (eqU x) by simp,Zff r fs]
  exact q
theorem ZgU:Zdg X (.type "list") (fun xs H Q=>∃ p ys,xs=[.ref p]/\(SqL X.K H p ys\/SqT X.K H p ys)/\∀ l,H l=none->Q (.ref l) (upd H l (.lst ys))):=by
 intro pins s σ H xs us Q I r h
 obtain ⟨p,ys,rfl,hq,q⟩:=h
 obtain ⟨u,rfl,rx⟩:=Zhc r
 cases rx
 have fin:∀ (its:List Value),Vals ys its->ys.length<=sizeLine->∀ (h':Heap) (c':Nat),(∀ b o',s.heap.get? b=some o'->h'.get? b=some o') ->
   h'.get? s.heap.objs.size=some { cls:=.type "list",dict:=none,data:=.seq its.toArray c',slots:=#[] }->EP X pins σ Q (.ref s.heap.objs.size) { s with heap:=h' }:=fun its r' hz h' c' kp e =>
  ⟨.ref s.heap.objs.size,_,I.laid (t':=s.toks) kp (Nat.le_refl _) (show ObjOk X.prog X.w _ h' _ (.lst ys) from ⟨hz,its,c',r',e⟩),rfl,q _ (I.hok.fresh (Nat.le_refl _))⟩
 rcases hq with hq|hq
 ·obtain ⟨its,r',pl,hz⟩:=I.list hq
  have hlen:=r'.length
  obtain ⟨o,ho,hc,n,hd⟩:=pl.isList
  exact call_list_seq p (.inl rfl) ho hc hd (fun h' c' kp e=>fin its r' hz h' c' kp e) (by simp only[size_toArray] <;> lia)
 ·obtain ⟨its,r',pl,hz⟩:=I.tuple hq
  have hlen:=r'.length
  obtain ⟨o,ho,hc,n,hd⟩:=pl
  exact call_list_seq p (.inr rfl) ho hc hd (fun h' c' kp e=>fin its r' hz h' c' kp e) (by simp only[size_toArray] <;> lia)
theorem Zf5:Zdg X (.type "tuple") (fun xs H Q=>∃ p ys,xs=[.ref p]/\((SqL X.K H p ys/\∀ l,H l=none->Q (.ref l) (upd H l (.tup ys)))\/(SqT X.K H p ys/\Q (.ref p) H))):=by
 intro pins s σ H xs us Q I r h
 obtain ⟨p,ys,rfl,h⟩:=h
 obtain ⟨u,rfl,rx⟩:=Zhc r
 cases rx
 rcases h with ⟨hq,q⟩|⟨hq,q⟩
 ·obtain ⟨its,r',pl,hz⟩:=I.list hq
  have hlen:=r'.length
  refine call_tuple_list pl.isList (fun h' kp=>?_) (by simp only[size_toArray] <;> lia)
  have I1:Inv X pins σ H { s with heap:=h' }:=I.kept (t':=s.toks) kp
  have I2:Inv X pins σ (upd H h'.objs.size (.tup ys)) { s with heap:=h'.push { cls:=.type "tuple",data:=.seq its.toArray } } :=
   I1.laid (t':=s.toks) (fun b o e=>Heap.get?_push_of_some _ e) (Nat.le_refl _) (show ObjOk X.prog X.w _ _ _ (.tup ys) from ⟨hz,its,r',IsTup.new _ _⟩)
  exact ⟨.ref h'.objs.size,_,I2,rfl,q _ (I1.hok.fresh (Nat.le_refl _))⟩
 ·obtain ⟨its,r',pl,hz⟩:=I.tuple hq
  exact call_tuple_same pl ⟨.ref p,H,I,rfl,q⟩
def tyV (K:W.Frag) (T:String) (x:V) (H:Hp):Prop:=match x with
 | .str _=>T="str"
 | .int _=>T="int"
 | .ref p=>(T="list"/\∃ xs,SqL K H p xs)\/(T="tuple"/\∃ o,K.lookup p=some o/\o.cls=.type "tuple"/\o.dict=none) \/
   (T="dict"/\((∃ kvs,H p=some (.dK kvs))\/∃ kvs,H p=some (.dT kvs)))\/(T="set"/\∃ S n,H p=some (.set S n))
 | _=>False
theorem Zlk {pins:List (Addr×Obj)} {σ:St} {H:Hp} {s:Shared} {T:String} {x:V} {v:Value} (I:Inv X pins σ H s) (r:RelV x v) (ty:tyV X.K T x H) :
  s.TypeIs v T/\∀ a,v=.ref a->∃ ob,s.heap.get? a=some ob/\ob.dict=none:=by
 cases x with
 | str z =>
  obtain ⟨t,rfl⟩:=r
  cases (show T="str" from ty)
  exact ⟨typeIs_str s z t,fun _ e=>nomatch e⟩
 | int i =>
  obtain ⟨t,rfl⟩:=r
  cases (show T="int" from ty)
  exact ⟨typeIs_int s i t,fun _ e=>nomatch e⟩
 | ref p =>
  cases r
  rcases ty with ⟨rfl,xs,hq⟩|⟨rfl,o,hk,hc,hd⟩|⟨rfl,hk⟩|⟨rfl,S,n,hk⟩
  ·obtain ⟨its,_,pl,_⟩:=I.list hq
   refine ⟨pl.isList.typeIs,fun a e=>?_⟩
   cases e
   obtain ⟨o,n,e,c,hd,_⟩:=pl
   exact ⟨o,e,hd⟩
  ·refine ⟨⟨o,I.kIn p o hk,hc⟩,fun a e=>?_⟩
   cases e
   exact ⟨o,I.kIn _ o hk,hd⟩
  ·have z:∃ o,s.heap.get? p=some o/\o.ExactDict:=by
    rcases hk with ⟨kvs,hk⟩|⟨kvs,hk⟩
    ·obtain ⟨_,_,_,_,o,_,_,e,ex,_⟩:=I.hok p _ hk
     exact ⟨o,e,ex⟩
    ·obtain ⟨_,_,_,_,o,_,_,e,ex,_⟩:=I.hok p _ hk
     exact ⟨o,e,ex⟩
   obtain ⟨o,e,ex⟩:=z
   refine ⟨⟨o,e,ex.1⟩,fun a e2=>?_⟩
   cases e2
   exact ⟨o,e,ex.2.1⟩
  ·obtain ⟨o,_,_,_,e,ex,_⟩:=I.hok p _ hk
   refine ⟨⟨o,e,ex.1⟩,fun a e2=>?_⟩
   cases e2
   exact ⟨o,e,ex.2.1⟩
 | _=>exact False.elim ty
def tBM0 (K:W.Frag) (T:String) (r:V->List V->Hp->VK->Prop) (to:TE):TE:=fun σ H Q=>to σ H fun x H1=>tyV K T x H1/\r x [] H1 Q
def tBM (K:W.Frag) (T:String) (r:V->List V->Hp->VK->Prop) (to:TE) (t:TA):TE:=fun σ H Q=>to σ H fun x H1=>tyV K T x H1/\t σ H1 fun xs H2=>r x xs H2 Q
variable {o e:Expr} {es:List Expr} {to:TE} {t:TA} {name:Str} {apos cpos:Pos} {T id:String} {r:V->List V->Hp->VK->Prop}
theorem pe_bm0 (pa:PlainAttrs T) (slot:Slot T name id) (hty:typeOf (.builtin id)=pure (.type "method_descriptor")) (hm:MtR X id r) (ho:PE X o to)
  (hbase:attributeBase o name X.env (eval o X.env)=eval o X.env:=by rfl) (hline:(apos.endLine == cpos.line)=true:=by rfl):PE X (.Call (.Attribute o name apos) [] [] cpos) (tBM0 X.K T r to):=by
 intro pins s σ H Q I h
 refine wpAny_Call_method0_late hbase hline (thn (ho pins s σ H _ I h) fun v s1 ⟨x,H1,I1,r1,ty,q1⟩=>?_)
 obtain ⟨h1,h2⟩:=Zlk I1 r1 ty
 exact ⟨T,id,pa,slot,hty,h1,h2,Calls.callWith_builtin rfl (PySem.evalArgs_none (hm pins s1 σ H1 x [] v [] Q I1 r1 .nil q1))⟩
theorem pe_bm (pa:PlainAttrs T) (slot:Slot T name id) (hty:typeOf (.builtin id)=pure (.type "method_descriptor")) (hm:MtR X id r) (ho:PE X o to) (ha:PA X (e::es) t)
  (hbase:attributeBase o name X.env (eval o X.env)=eval o X.env:=by rfl)
  (hfew:((backTo cpos (starEach (e::es) X.env)).all (fun x=>!x.1) && (backToKw cpos (keywordEach [] X.env)).all (fun x=>x.1.isSome)
   && decide ((e::es).length+([]:List Keyword).length+(if ([]:List Keyword).isEmpty then 0 else 1) < 30))=true:=by rfl)
  (hline:(apos.endLine == cpos.line)=true:=by rfl) (hs:starEach (e::es) X.env=(false,eval e X.env)::starEach es X.env:=by rfl) (hplain:(backTo cpos (starEach es X.env)).any (·.1)=false:=by rfl) :
  PE X (.Call (.Attribute o name apos) (e::es) [] cpos) (tBM X.K T r to t):=by
 intro pins s σ H Q I h
 refine wpAny_Call_method_late hbase hfew hline rfl (thn (ho pins s σ H _ I h) fun v s1 ⟨x,H1,I1,r1,ty,q1⟩=>?_)
 obtain ⟨h1,h2⟩:=Zlk I1 r1 ty
 refine ⟨T,id,pa,slot,hty,h1,h2,?_⟩
 have hA:=ha cpos pins s1 σ H1 _ I1 q1
 rw[hs] at hA ⊢
 refine Calls.callWith_builtin (by show (false || (backTo cpos (starEach es X.env)).any (·.1))=false;rw[hplain] <;> rfl) (Calls.evalArgs_plain ?_)
 exact thn hA fun us s2 ⟨vs,H2,I2,r2,q2⟩=>hm pins s2 σ H2 x vs v us Q I2 r1 r2 q2
/- xs.append(e),list.index on a module's tuple .. are MtR facts of 06m -/
end
end L2
namespace L2
open PySem PySem.Spec PyProof.Rows
def MtM (X:Cx) (id:String) (r:V->List V->Hp->VK->Prop):Prop :=
 ∀ (pins:List (Addr×Obj)) (s:Shared) (σ:St) (H:Hp) (x:V) (xs:List V) (v:Value) (us:List Value) (Q:VK),Inv X pins σ H s->RelV x v->Vals xs us->r x xs H Q ->
  wpAny (model X.prog X.w) X.A (call (.builtin id) (v::us)) (EP X pins σ Q) X.xe s
theorem Vals.consI {x:V} {xs:List V} {us:List Value} (h:Vals (x::xs) us):∃ u ws,us=u::ws/\RelV x u/\Vals xs ws:=by
 cases h with
 | cons r t=>exact ⟨_,_,rfl,r,t⟩
theorem Vals.nilI {us:List Value} (h:Vals [] us):us=[]:=by
 cases h
 rfl
theorem Vals.one {x:V} {us:List Value} (h:Vals [x] us):∃ u,us=[u]/\RelV x u:=by
 obtain ⟨u,ws,rfl,r,t⟩:=h.consI
 exact ⟨u,by rw[t.nilI],r⟩
theorem Vals.zero:∀ {us:List Value},Vals [] us->us=[]
 | _,.nil=>rfl
theorem Vals.dropLast {xs:List V} {us:List Value} (h:Vals xs us):Vals xs.dropLast us.dropLast:=by
 induction h with
 | nil=>exact .nil
 | cons r t ih =>
  cases t with
  | nil=>exact .nil
  | cons q t'=>exact .cons r ih
theorem Vals.eraseIdx:∀ {xs:List V} {us:List Value} (i:Nat),Vals xs us->Vals (xs.eraseIdx i) (us.eraseIdx i)
 | _,_,_,.nil=>.nil
 | _,_,0,.cons _ t=>t
 | _,_,i+1,.cons r t=>.cons r (Vals.eraseIdx i t)
theorem Vals.rep {xs : List V} {us : List Value} (h : Vals xs us) : ∀ k : Nat, Vals (List.replicate k xs).flatten (List.replicate k us).flatten
  | 0 => .nil
  | k + 1 => by
    rw[replicate_succ,replicate_succ,flatten_cons,flatten_cons]
    exact Vals.append h (Vals.rep h k)
theorem ZiK {α:Type} (l:List α):l.eraseIdx (l.length - 1)=l.dropLast:=by
 induction l with
 | nil=>rfl
 | cons a r ih =>
  cases r with
  | nil=>rfl
  | cons b r =>
   have e:(a::b::r).length - 1=((b::r).length - 1)+1:=by
    have h1:(a::b::r).length=r.length+2:=rfl
    have h2:(b::r).length=r.length+1:=rfl
    lia
   rw[e,eraseIdx_cons_succ,ih]
   all_goals rfl
theorem ZgE {α:Type}:∀ (l:List α) (i:Nat),(l.eraseIdx i).length<=l.length
 | [],_=>Nat.le_refl _
 | _::_,0=>Nat.le_succ _
 | _::r,i+1=>Nat.succ_le_succ (ZgE r i)
theorem ZgK (its : List Value) : ∀ (k : Nat) (acc : List Value),
    List.foldl (fun x1 x2=>x1++x2) acc.toArray (List.replicate k its.toArray)=(acc++(List.replicate k its).flatten).toArray
  | 0, acc => by simp
  | k + 1, acc => by
    have e:acc.toArray++its.toArray=(acc++its).toArray:=by simp
    have e2 : (acc ++ its) ++ (List.replicate k its).flatten = acc ++ (List.replicate (k + 1) its).flatten := by
      rw[replicate_succ,flatten_cons,append_assoc]
    rw[<- e2, <- ZgK its k (acc ++ its), <- e, replicate_succ, foldl_cons]
section
variable {X:Cx} {pins:List (Addr×Obj)} {σ:St} {H:Hp} {s:Shared} {l b:Addr} {xs ys zs:List V}
theorem Inv.lset {its its':List Value} {n:Nat} {f:Array Value->Array Value} {t':Nat} (I:Inv X pins σ H s) (hH:H l=some (.lst xs))
  (e:s.heap.get? l=some { cls:=.type "list",data:=.seq its.toArray n }) (hf:f its.toArray=its'.toArray) (hv:Vals ys its') (hz:ys.length<=sizeLine) :
  Inv X pins σ (upd H l (.lst ys)) { s with heap:=s.heap.update l (Obj.mapSeq f),toks:=t' }:=by
 have q:=PySem.IsL.update e f
 rw[hf] at q
 refine I.write (x:=l) (e:=l) (by rw[hH];exact trivial) (.inl rfl) (fun b' u hb hu=>(Heap.get?_update_other s.heap (Obj.mapSeq f) (Ne.symm hb)).trans hu) ⟨_,q⟩ ?_
 exact ⟨hz,its',_,hv,q⟩
theorem Inv.lnew {its:List Value} {t':Nat} (I:Inv X pins σ H s) (hv:Vals ys its) (hz:ys.length<=sizeLine) :
  Inv X pins σ (upd H s.heap.objs.size (.lst ys)) { s with heap:=s.heap.push { cls:=.type "list",data:=.seq its.toArray },toks:=t' } :=
 I.laid (fun _ _ q=>Heap.get?_push_of_some _ q) (Nat.le_refl _) ⟨hz,its,0,hv,Heap.get?_push_size _ rfl⟩
theorem Inv.fresh (I:Inv X pins σ H s):H s.heap.objs.size=none:=I.hok.fresh (Nat.le_refl _)
theorem Inv.lstM (I:Inv X pins σ H s) (hH:H l=some (.lst xs)):xs.length<=sizeLine/\∃ (its:List Value) (n:Nat),Vals xs its/\xs.length=its.length/\s.heap.get? l=some { cls:=.type "list",data:=.seq its.toArray n }:=by
 obtain ⟨z,its,n,r,e⟩:=I.hok l _ hH
 exact ⟨z,its,n,r,r.length,e⟩
theorem Zia {n:Nat} (h:n<=sizeLine):Builtin.List.listTooLong n=false:=by
 unfold Builtin.List.listTooLong
 exact decide_eq_false (by lia)
end
section
variable {X:Cx}
def ZcK:V->List V->Hp->VK->Prop:=fun x vs H Q=>∃ l xs y,x=.ref l/\vs=[y]/\H l=some (.lst xs)/\xs.length < sizeLine/\Q .non (upd H l (.lst (xs++[y])))
theorem ZbN:MtM X "list.append" ZcK:=by
 intro pins s σ H x vs v us Q I rx rv h
 obtain ⟨l,xs,y,rfl,rfl,hH,hz,q⟩:=h
 cases rx
 obtain ⟨u,rfl,ru⟩:=rv.one
 obtain ⟨z,its,n,r,hl,e⟩:=I.lstM hH
 refine call_meets F.slot_list_append ⟨_,e,rfl⟩ F.entry_list_append (F.args_list_append_2 _ _) (PySem.list_append l its.toArray n u (by rw[size_toArray];lia)) ⟨e,?_⟩
 refine ⟨.non,_,I.lset (its':=its++[u]) hH e (by simp) (r.append (.cons ru .nil)) ?_,rfl,q⟩
 rw[length_append,length_singleton]
 lia
def Zl5:V->List V->Hp->VK->Prop:=fun x vs H Q=>∃ l b xs zs,x=.ref l/\vs=[.ref b]/\H l=some (.lst xs)/\H b=some (.lst zs)/\xs.length+zs.length<=sizeLine/\Q .non (upd H l (.lst (xs++zs)))
theorem mt_extend:MtM X "list.extend" Zl5:=by
 intro pins s σ H x vs v us Q I rx rv h
 obtain ⟨l,b,xs,zs,rfl,rfl,hH,hB,hz,q⟩:=h
 cases rx
 obtain ⟨u,rfl,ru⟩:=rv.one
 cases ru
 obtain ⟨z,its,n,r,hl,e⟩:=I.lstM hH
 obtain ⟨z2,its2,n2,r2,hl2,e2⟩:=I.lstM hB
 have hsz:its.toArray.size+its2.toArray.size<=sizeLine:=by rw[size_toArray,size_toArray];lia
 have hlong:¬ (!its.toArray.isEmpty && Builtin.List.listTooLong (its.toArray.size+its2.toArray.size))=true:=by
  rw[Zia hsz,Bool.and_false]
  exact Bool.false_ne_true
 refine call_meets F.slot_list_extend ⟨_,e,rfl⟩ F.entry_list_extend (F.args_list_extend_2 _ _)
  (AutoSeq1.list_extend_list_list_0 l its.toArray n b its2.toArray n2 hlong (by rw[size_toArray];lia) (by lia)) ⟨e,e2,?_⟩
 refine ⟨.non,_,I.lset (its':=its++its2) hH e (by simp) (r.append r2) ?_,rfl,q⟩
 rw[length_append]
 lia
def rPop:V->List V->Hp->VK->Prop:=fun x vs H Q=>∃ l xs y,x=.ref l/\vs=[]/\H l=some (.lst xs)/\xs[xs.length - 1]?=some y/\Q y (upd H l (.lst xs.dropLast))
theorem ZjD:MtM X "list.pop" rPop:=by
 intro pins s σ H x vs v us Q I rx rv h
 obtain ⟨l,xs,y,rfl,rfl,hH,hy,q⟩:=h
 cases rx
 have hus:=rv.zero
 subst hus
 obtain ⟨z,its,n,r,hl,e⟩:=I.lstM hH
 obtain ⟨u,hu,ru⟩:=r.get hy
 have hy':its.toArray[its.toArray.size - 1]?=some u:=by
  show its.toArray[its.length - 1]?=some u
  rw[<-Array.getElem?_toList,<- hl]
  exact hu
 refine call_meets F.slot_list_pop ⟨_,e,rfl⟩ F.entry_list_pop (F.args_list_pop_1 _) (MeetsSeq.list_pop_last l its.toArray n u hy' (by rw[size_toArray];lia)) ⟨e,?_⟩
 refine ⟨y,_,I.lset (its':=its.dropLast) hH e ?_ r.dropLast ?_,ru,q⟩
 ·show its.toArray.eraseIdxIfInBounds (its.toArray.size - 1)=its.dropLast.toArray
  rw[size_toArray,eraseIdxIfInBounds_toArray,ZiK]
 ·rw[length_dropLast]
  lia
def Ze0:V->List V->Hp->VK->Prop:=fun x vs H Q=>∃ l xs i k y,x=.ref l/\vs=[.int i]/\H l=some (.lst xs)/\-(2 ^ 63)<=i/\i < 2 ^ 63/\seqIndex? i xs.length=some k/\xs[k]?=some y/\Q y (upd H l (.lst (xs.eraseIdx k)))
theorem ZdF:MtM X "list.pop" Ze0:=by
 intro pins s σ H x vs v us Q I rx rv h
 obtain ⟨l,xs,i,k,y,rfl,rfl,hH,h1,h2,hk,hy,q⟩:=h
 cases rx
 obtain ⟨u,rfl,ru⟩:=rv.one
 obtain ⟨t,rfl⟩:=ru
 obtain ⟨z,its,n,r,hl,e⟩:=I.lstM hH
 obtain ⟨w,hw,rw'⟩:=r.get hy
 refine call_meets F.slot_list_pop ⟨_,e,rfl⟩ F.entry_list_pop (F.args_list_pop_2 _ _)
  (MeetsSeq.list_pop_at l its.toArray n i t k w (fitsIndex_both h1 h2) (by rw[size_toArray,<- hl];exact hk) (by rw[<-Array.getElem?_toList];exact hw) (by rw[size_toArray];lia)) ⟨e,?_⟩
 refine ⟨y,_,I.lset (its':=its.eraseIdx k) hH e ?_ (r.eraseIdx k) ?_,rw',q⟩
 ·show its.toArray.eraseIdxIfInBounds k=(its.eraseIdx k).toArray
  rw[eraseIdxIfInBounds_toArray]
 ·have:=ZgE xs k
  lia
def rCat:R2:=fun x y H Q=>∃ l b xs zs,x=.ref l/\y=.ref b/\H l=some (.lst xs)/\H b=some (.lst zs)/\xs.length+zs.length<=sizeLine/\∀ p,H p=none->Q (.ref p) (upd H p (.lst (xs++zs)))
theorem Zek:OpR X (binaryOp .Add) rCat:=by
 intro pins s σ H x y v u Q I rx ry h
 obtain ⟨l,b,xs,zs,rfl,rfl,hH,hB,hz,q⟩:=h
 cases rx
 cases ry
 obtain ⟨z,its,n,r,hl,e⟩:=I.lstM hH
 obtain ⟨z2,its2,n2,r2,hl2,e2⟩:=I.lstM hB
 refine PySem.P.add_list e e2 ?_ (by rw[size_toArray,size_toArray];lia)
 have ea:its.toArray++its2.toArray=(its++its2).toArray:=by simp
 rw[ea]
 exact ⟨.ref _,_,I.lnew (t':=s.toks) (r.append r2) (by rw[length_append];lia),rfl,q _ I.fresh⟩
def rRep:R2:=fun x y H Q=>∃ l k xs,x=.ref l/\y=.int k/\H l=some (.lst xs)/\-(2 ^ 63)<=k/\k < 2 ^ 63/\xs.length * k.toNat<=sizeLine /\
 ∀ p,H p=none->Q (.ref p) (upd H p (.lst (List.replicate k.toNat xs).flatten))
theorem Zmq {α:Type} (xs:List α) (k:Nat):(List.replicate k xs).flatten.length=k * xs.length:=by
 induction k with
 | zero=>simp
 | succ k ih=>rw[replicate_succ,flatten_cons,length_append,ih,Nat.succ_mul,Nat.add_comm]
theorem Zh7:OpR X (binaryOp .Mult) rRep:=by
 intro pins s σ H x y v u Q I rx ry h
 obtain ⟨l,k,xs,rfl,rfl,hH,h1,h2,hz,q⟩:=h
 cases rx
 obtain ⟨t,rfl⟩:=ry
 obtain ⟨z,its,n,r,hl,e⟩:=I.lstM hH
 have hlen:its.toArray.size * k.toNat<=sizeLine:=by rw[size_toArray,<- hl];exact hz
 have hcap:¬ its.toArray.size * k.toNat > (2 ^ 63 - 1) / 8:=by
  have:(sizeLine:Nat)<=(2 ^ 63 - 1) / 8:=by decide
  lia
 have hfit:¬ (!Builtin.List.listFitsIndex k)=true:=by
  rw[fitsIndex_both h1 h2]
  exact Bool.false_ne_true
 have hlong:¬ Builtin.List.listTooLong (its.toArray.size * k.toNat)=true:=by
  rw[Zia hlen]
  exact Bool.false_ne_true
 have hnew:List.foldl (fun x1 x2=>x1++x2) #[] (List.replicate (if its.toArray.isEmpty=true then 0 else k.toNat) its.toArray)=(List.replicate k.toNat its).flatten.toArray:=by
  have f0:∀ m:Nat,List.foldl (fun x1 x2=>x1++x2) #[] (List.replicate m its.toArray)=(List.replicate m its).flatten.toArray:=fun m=>by
   have:=ZgK its m []
   rw[nil_append] at this
   exact this
  rw[f0]
  cases its with
  | nil=>simp
  | cons a r'=>rw[if_neg (by simp)]
 refine wpAny_binaryOp_repeat_ref (T:="list") (U:="int") (by decide) ⟨_,e,rfl⟩ (fun s'=>typeIs_int s' k t) noFill_list_mul F.fills_int_mul F.slot_int_rmul repeat_list F.slot_int_index.lookup
  (call_meets F.slot_int_rmul (typeIs_int s k t) F.entry_int_rmul (F.args_int_rmul_2 _ _) (int___rmul___int_list k t l its.toArray n)
   ⟨e,rfl,⟨_,e,rfl⟩,call_meets F.slot_list_mul ⟨_,e,rfl⟩ F.entry_list_mul (F.args_list_mul_2 _ _) (AutoListH.list___mul___list_int_3 l its.toArray n k t hfit hcap hlong) ⟨e,?_⟩⟩)
 rw[hnew]
 exact ⟨.ref _,_,I.lnew (t':=s.toks) (r.rep k.toNat) (by rw[Zmq,Nat.mul_comm];exact hz),rfl,q _ I.fresh⟩
end
end L2
namespace L2
open PySem PySem.Spec PyProof.Rows
section
variable {κ:Type} [DecidableEq κ]
def valV (kvs:List (κ×V)) (k:κ):Option V:=(kvs.find? fun kv=>decide (kv.1=k)).map (·.2)
def putK (kvs:List (κ×V)) (k:κ) (v:V):List (κ×V) :=
 if (kvs.any fun kv=>decide (kv.1=k))=true then kvs.map (fun kv=>if kv.1=k then (kv.1,v) else kv) else kvs++[(k,v)]
theorem ZbW {p:κ×V} {r:List (κ×V)} {k:κ} (e:p.1=k):valV (p::r) k=some p.2:=by simp[valV,find?_cons,e]
theorem ZbX {p:κ×V} {r:List (κ×V)} {k:κ} (e:¬ p.1=k):valV (p::r) k=valV r k:=by simp[valV,find?_cons,e]
theorem ZeL (k : κ) : ∀ kvs : List (κ × V), (kvs.any fun kv => decide (kv.1 = k)) = (valV kvs k).isSome
  | [] => rfl
  | p :: r => by
    rw[any_cons]
    by_cases e:p.1=k
    · simp only[ZbW e, decide_eq_true e, Bool.true_or, Option.isSome_some]
    · rw[ZbX e, decide_eq_false e, Bool.false_or]; exact ZeL k r
theorem ZhW (k j : κ) (y : V) : ∀ kvs : List (κ × V), valV (kvs.map fun kv => if kv.1 = k then (kv.1, y) else kv) j = (valV kvs j).map fun x => if j = k then y else x
  | [] => rfl
  | p :: r => by
    have ih:=ZhW k j y r
    rw[map_cons]
    by_cases h:p.1=k
    · rw[if_pos h]
      by_cases e:p.1=j
      · rw[ZbW (p := (p.1, y)) e, ZbW e, Option.map_some, if_pos (e.symm.trans h)]
      · rw[ZbX (p := (p.1, y)) e, ZbX e, ih]
    · rw[if_neg h]
      by_cases e:p.1=j
      · rw[ZbW (p := p) e, ZbW e, Option.map_some, if_neg (fun z => h (e.trans z))]
      · rw[ZbX (p := p) e, ZbX e, ih]
theorem Zgh (k j : κ) (y : V) : ∀ kvs : List (κ × V), valV kvs k = none -> valV (kvs ++ [(k, y)]) j = if j = k then some y else valV kvs j
  | [], _ => by
    by_cases e:k=j
    · rw[if_pos e.symm]; exact ZbW (p := (k, y)) e
    · rw[if_neg (fun z => e z.symm)]; exact ZbX (p := (k, y)) e
  | p :: r, hn => by
    rw[cons_append]
    have hk:¬ p.1=k:=fun z=>by rw[ZbW z] at hn;cases hn
    rw[ZbX hk] at hn
    have ih:=Zgh k j y r hn
    by_cases e:p.1=j
    · rw[ZbW e, ZbW e, if_neg (fun z => hk (e.trans z))]
    · rw[ZbX e, ZbX e, ih]
theorem ZhV (kvs:List (κ×V)) (k j:κ) (y:V):valV (putK kvs k y) j=if j=k then some y else valV kvs j:=by
 unfold putK
 by_cases a:(kvs.any fun kv=>decide (kv.1=k))=true
 ·rw[if_pos a,ZhW]
  rw[ZeL] at a
  by_cases e:j=k
  ·obtain ⟨x,hx⟩:=Option.isSome_iff_exists.mp a
   rw[if_pos e,e,hx,Option.map_some,if_pos rfl]
  ·rw[if_neg e]
   cases valV kvs j with
   | none=>rfl
   | some x=>rw[Option.map_some,if_neg e]
 ·rw[if_neg a]
  refine Zgh k j y kvs ?_
  rw[ZeL] at a
  cases q:valV kvs k with
  | none=>rfl
  | some x=>rw[q] at a;exact (a rfl).elim
theorem Zcs (kvs:List (κ×V)) (k:κ) (v:V):(putK kvs k v).length<=kvs.length+1:=by
 unfold putK
 split
 ·rw[length_map];lia
 ·rw[length_append,length_cons,length_nil];lia
theorem RelO.isSome_eq {o:Option V} {u:Option Value} (r:RelO o u):o.isSome=u.isSome:=by
  cases o with
  | none => cases u with
    | none => rfl
    | some _ => exact (show False from r).elim
  | some _ => cases u with
    | none => exact (show False from r).elim
    | some _ => rfl
theorem RelO.getD {o:Option V} {u:Option Value} {d:V} {d':Value} (r:RelO o u) (rd:RelV d d'):RelV (o.getD d) (u.getD d'):=by
  cases o with
  | none => cases u with
    | none => exact rd
    | some _ => exact (show False from r).elim
  | some _ => cases u with
    | none => exact (show False from r).elim
    | some _ => exact r
theorem KV.val {kvs:List (κ×V)} {vs:List (κ×Value)} (r:KV kvs vs) (k:κ):RelO (valV kvs k) (valueAt vs k):=by
 unfold KV at r
 induction r with
 | nil=>exact True.intro
 | @cons p q ps qs h t ih =>
  obtain ⟨h1,h2⟩:=h
  by_cases e:p.1=k
  ·have e':q.1=k:=h1.symm.trans e
   have b:valueAt (q::qs) k=some q.2:=by simp[valueAt,find?_cons,e']
   rw[ZbW e,b];exact h2
  ·have e':¬ q.1=k:=fun z=>e (h1.trans z)
   have b:valueAt (q::qs) k=valueAt qs k:=by simp[valueAt,find?_cons,e']
   rw[ZbX e,b];exact ih
theorem KV.any {kvs:List (κ×V)} {vs:List (κ×Value)} (r:KV kvs vs) (k:κ):(kvs.any fun kv=>decide (kv.1=k))=vs.any fun kv=>decide (kv.1=k):=by
 unfold KV at r
 induction r with
 | nil=>rfl
 | cons h t ih=>rw[any_cons,any_cons,ih,h.1]
theorem KV.repl {kvs:List (κ×V)} {vs:List (κ×Value)} (r:KV kvs vs) (k:κ) {y:V} {u:Value} (ry:RelV y u) :
  KV (kvs.map fun kv=>if kv.1=k then (kv.1,y) else kv) (vs.map fun kv=>if kv.1=k then (kv.1,u) else kv):=by
 unfold KV at r ⊢
 induction r with
 | nil=>exact .nil
 | @cons p q ps qs h t ih =>
  rw[map_cons,map_cons]
  refine .cons ?_ ih
  obtain ⟨h1,h2⟩:=h
  by_cases e:p.1=k
  ·rw[if_pos e,if_pos (h1.symm.trans e)];exact ⟨h1,ry⟩
  ·rw[if_neg e,if_neg (fun z=>e (h1.trans z))];exact ⟨h1,h2⟩
theorem KV.put {kvs:List (κ×V)} {vs:List (κ×Value)} (r:KV kvs vs) (k:κ) {y:V} {u:Value} (ry:RelV y u):KV (putK kvs k y) (stored vs k u):=by
 unfold putK stored
 rw[r.any k]
 by_cases e:(vs.any fun kv=>decide (kv.1=k))=true
 ·rw[if_pos e,if_pos e];exact r.repl k ry
 ·rw[if_neg e,if_neg e];exact Paired.snoc r ⟨rfl,ry⟩
theorem KV.length {kvs:List (κ×V)} {vs:List (κ×Value)} (r:KV kvs vs):kvs.length=vs.length:=Paired.length r
end
theorem ZhD {P:Program} {w:World} {k:Key} {u:Value} (r:RelV (kV k) u):(Zbt P w).is k u=true:=by
 cases k with
 | inl i=>obtain ⟨t,e⟩:=(show ∃ t,u=Value.int i t from r);subst e;exact ZhB P w i t
 | inr x=>obtain ⟨t,e⟩:=(show ∃ t,u=Value.str x t from r);subst e;exact ZdR P w x t
theorem ZgG {P : Program} {w : World} : ∀ {ks : List Key} {us : List Value}, Vals (ks.map kV) us -> ItemsAre (Zbt P w) ks us
  | [], _, r => by rw[map_nil] at r; cases r; exact .nil
  | k :: ks, _, r => by
    rw[map_cons] at r
    cases r with
    | cons h t => exact .cons (ZhD h) (ZgG t)
abbrev KT (H:Hp):List (List Key×V)->List (List Key×Addr×Value)->Prop:=Paired fun p q=>p.1=q.1/\H q.2.1=some (.tup (p.1.map kV))/\RelV p.2 q.2.2
theorem KT.val {H:Hp} {kvs:List (List Key×V)} {xs:List (List Key×Addr×Value)} (r:KT H kvs xs) (k:List Key):RelO (valV kvs k) ((atKey xs k).map (·.2)):=by
 induction r with
 | nil=>exact True.intro
 | @cons p q ps qs h t ih =>
  obtain ⟨h1,_,h2⟩:=h
  by_cases e:p.1=k
  ·have e':q.1=k:=h1.symm.trans e
   have b:atKey (q::qs) k=some q.2:=by simp[atKey,find?_cons,e']
   rw[ZbW e,b];exact h2
  ·have e':¬ q.1=k:=fun z=>e (h1.trans z)
   have b:atKey (q::qs) k=atKey qs k:=by simp[atKey,find?_cons,e']
   rw[ZbX e,b];exact ih
theorem KT.repl {H:Hp} {kvs:List (List Key×V)} {xs:List (List Key×Addr×Value)} (r:KT H kvs xs) (k:List Key) {y:V} {u:Value} (ry:RelV y u) :
  KT H (kvs.map fun kv=>if kv.1=k then (kv.1,y) else kv) (xs.map (putAt k u)):=by
 induction r with
 | nil=>exact .nil
 | @cons p q ps qs h t ih =>
  rw[map_cons,map_cons]
  refine .cons ?_ ih
  obtain ⟨h1,h2,h3⟩:=h
  unfold putAt
  by_cases e:p.1=k
  ·rw[if_pos e,if_pos (h1.symm.trans e)];exact ⟨h1,h2,ry⟩
  ·rw[if_neg e,if_neg (fun z=>e (h1.trans z))];exact ⟨h1,h2,h3⟩
theorem KT.put {H:Hp} {kvs:List (List Key×V)} {xs:List (List Key×Addr×Value)} (r:KT H kvs xs) (k:List Key) {b:Addr} {y:V} {u:Value} (hb:H b=some (.tup (k.map kV))) (ry:RelV y u) :
  KT H (putK kvs k y) (storedH xs k b u):=by
 have e:(kvs.any fun kv=>decide (kv.1=k))=(atKey xs k).isSome:=by
  rw[ZeL,(r.val k).isSome_eq,Option.isSome_map]
 unfold putK storedH
 rw[e]
 by_cases q:(atKey xs k).isSome=true
 ·rw[if_pos q,if_pos q];exact r.repl k ry
 ·rw[if_neg q,if_neg q];exact Paired.snoc r ⟨rfl,hb,ry⟩
theorem KT.keeps {H H':Hp} {kvs:List (List Key×V)} {xs:List (List Key×Addr×Value)} (r:KT H kvs xs) (ht:∀ b ys,H b=some (.tup ys)->H' b=some (.tup ys)):KT H' kvs xs :=
 Paired.mapP r fun _ _ z=>⟨z.1,ht _ _ z.2.1,z.2.2⟩
section
variable {P:Program} {w:World} {H:Hp} {h:Heap} {a:Addr}
theorem rd_of {u:HO} (ok:HOk P w H h) (e:Rd H a u):ObjOk P w H h a u:=e.ok ok
theorem ZhH {kvs:List (Key×V)} (ok:HOk P w H h) (e:Rd H a (.dK kvs)):kvs.length<=sizeLine/\(a == sysModules)=false/\∃ vs,KV kvs vs/\h.DictOf (Zbt P w) a vs :=
 show ObjOk P w H h a (.dK kvs) from rd_of ok e
theorem dk_of {kvs:List (Key×V)} (ok:HOk P w H h) (e:H a=some (.dK kvs)):kvs.length<=sizeLine/\(a == sysModules)=false/\∃ vs,KV kvs vs/\h.DictOf (Zbt P w) a vs:=ZhH ok (.inl e)
theorem Ze7 {ks:List Key} (ok:HOk P w H h) (e:H a=some (.tup (ks.map kV))):(tupleKind (Zbt P w)).is h ks a:=by
 obtain ⟨_,its,r,o,h1,h2,n,h3⟩:=(show ObjOk P w H h a (.tup (ks.map kV)) from ok a _ e)
 exact ⟨o,its.toArray,n,h1,h2,h3,by simpa using ZgG r⟩
theorem ZhG {kvs:List (List Key×V)} (ok:HOk P w H h) (e:Rd H a (.dT kvs)):kvs.length<=sizeLine/\(a == sysModules)=false /\
  ∃ xs,KT H kvs xs/\h.DictOfH (tupleKind (Zbt P w)) a xs:=by
 obtain ⟨z,y,xs,r,o,es,ep,h1,h2,h3,h4,h5⟩:=(show ObjOk P w H h a (.dT kvs) from rd_of ok e)
 refine ⟨z,y,xs,r,o,es,ep,h1,h2,h3,h4,fun x hx=>?_,h5⟩
 have all:∀ {l:List (List Key×V)} {m:List (List Key×Addr×Value)},KT H l m->∀ x∈m,(tupleKind (Zbt P w)).is h x.1 x.2.1:=by
  intro l m q
  induction q with
  | nil=>intro x hx;exact nomatch hx
  | @cons p q ps qs hq t ih =>
   intro x hx
   rcases mem_cons.mp hx with e|hx
   ·subst e
    exact Ze7 ok (by rw[<-hq.1];exact hq.2.1)
   ·exact ih x hx
 exact all r x hx
theorem dt_of {kvs:List (List Key×V)} (ok:HOk P w H h) (e:H a=some (.dT kvs)):kvs.length<=sizeLine/\(a == sysModules)=false /\
  ∃ xs,KT H kvs xs/\h.DictOfH (tupleKind (Zbt P w)) a xs:=ZhG ok (.inl e)
end
def DGet (H:Hp) (a:Addr) (y:V) (r:Option V):Prop :=
 (∃ kvs k,Rd H a (.dK kvs)/\y=kV k/\r=valV kvs k)\/∃ kvs k b,Rd H a (.dT kvs)/\y=.ref b/\H b=some (.tup (k.map kV))/\r=valV kvs k
def DPut (H:Hp) (a:Addr) (y v:V) (H':Hp):Prop :=
 (∃ kvs k,H a=some (.dK kvs)/\y=kV k/\kvs.length < sizeLine/\H'=upd H a (.dK (putK kvs k v))) \/
 ∃ kvs k b,H a=some (.dT kvs)/\y=.ref b/\H b=some (.tup (k.map kV))/\kvs.length < sizeLine/\H'=upd H a (.dT (putK kvs k v))
theorem DGet.t {H:Hp} {a b:Addr} {kvs:List (List Key×V)} {k:List Key} (e:H a=some (.dT kvs)) (eb:H b=some (.tup (k.map kV))):DGet H a (.ref b) (valV kvs k):=.inr ⟨kvs,k,b,.inl e,rfl,eb,rfl⟩
theorem DPut.t {H:Hp} {a b:Addr} {kvs:List (List Key×V)} {k:List Key} {v:V} (e:H a=some (.dT kvs)) (eb:H b=some (.tup (k.map kV))) (hl:kvs.length < sizeLine) :
  DPut H a (.ref b) v (upd H a (.dT (putK kvs k v))):=.inr ⟨kvs,k,b,e,rfl,eb,hl,rfl⟩
section
variable {X:Cx} {pins:List (Addr×Obj)} {σ:St} {H:Hp} {s:Shared} {a:Addr} {y v:V} {u r:Value} {o:Option V} {A:Around} {E:Value->Shared->Prop}
theorem Inv.big (I:Inv X pins σ H s):sysModules < s.heap.objs.size:=by
 have h:mainGlobals < s.heap.objs.size:=(I.mod.glob.keeps I.bk).lt
 exact Nat.lt_trans (by decide) h
theorem ZjY {Q:Value->Shared->Prop} (hu:A.units+1 < cLine) (I:Inv X pins σ H s) (g:DGet H a y (some v)) (ry:RelV y u) (h:∀ w' s',Inv X pins σ H s'->RelV v w'->Q w' s') :
  wpAny (model X.prog X.w) A (getItem (.ref a) u) Q E s:=by
 rcases g with ⟨kvs,k,e,ey,l⟩|⟨kvs,k,b,e,ey,eb,l⟩
 ·subst ey
  obtain ⟨z,hd,vs,rel,dd⟩:=ZhH I.hok e
  obtain ⟨w',hw,rw'⟩:=RelO.some_of (v:=v) (o:=valueAt vs k) (by rw[l];exact rel.val k)
  exact wpAny_getItem_of (ZhD ry) dd.mapOf hw (h w' _ (I.tok _) rw')
 ·subst ey
  cases (show u=Value.ref b from ry)
  obtain ⟨z,hd,xs,rel,dd⟩:=ZhG I.hok e
  obtain ⟨w',hw,rw'⟩:=RelO.some_of (v:=v) (o:=(atKey xs k).map (·.2)) (by rw[l];exact rel.val k)
  obtain ⟨p,hp,hp2⟩:=Option.map_eq_some_iff.mp hw
  refine wpAny_getItem_heap (tupleKind_room_in1 hu) (Ze7 I.hok eb) dd hp ?_
  rw[hp2]
  exact h w' _ (I.tok _) rw'
theorem d_in {Q:Value->Shared->Prop} (hu:A.units+1 < cLine) (I:Inv X pins σ H s) (g:DGet H a y o) (ry:RelV y u) (h:∀ s',Inv X pins σ H s'->Q (.bool o.isSome) s') :
  wpAny (model X.prog X.w) A (compareOp .In u (.ref a)) Q E s:=by
 rcases g with ⟨kvs,k,e,ey,l⟩|⟨kvs,k,b,e,ey,eb,l⟩
 ·subst ey
  obtain ⟨z,hd,vs,rel,dd⟩:=ZhH I.hok e
  refine wpAny_in_of (ZhD ry) hd dd.mapOf ?_
  rw[<-(rel.val k).isSome_eq,<- l]
  exact h _ (I.tok _)
 ·subst ey
  cases (show u=Value.ref b from ry)
  obtain ⟨z,hd,xs,rel,dd⟩:=ZhG I.hok e
  refine wpAny_in_heap (tupleKind_room_in1 hu) (Ze7 I.hok eb) hd dd ?_
  have q:=(rel.val k).isSome_eq
  rw[Option.isSome_map] at q
  rw[<-q,<- l]
  exact h _ (I.tok _)
theorem ZmK {Q:Value->Shared->Prop} (hu:A.units+1 < cLine) (I:Inv X pins σ H s) (g:DGet H a y o) (ry:RelV y u) (h:∀ s',Inv X pins σ H s'->Q (.bool (!o.isSome)) s') :
  wpAny (model X.prog X.w) A (compareOp .NotIn u (.ref a)) Q E s:=by
 rcases g with ⟨kvs,k,e,ey,l⟩|⟨kvs,k,b,e,ey,eb,l⟩
 ·subst ey
  obtain ⟨z,hd,vs,rel,dd⟩:=ZhH I.hok e
  refine wpAny_notIn_of (ZhD ry) hd dd.mapOf ?_
  rw[<-(rel.val k).isSome_eq,<- l]
  exact h _ (I.tok _)
 ·subst ey
  cases (show u=Value.ref b from ry)
  obtain ⟨z,hd,xs,rel,dd⟩:=ZhG I.hok e
  refine wpAny_notIn_heap (tupleKind_room_in1 hu) (Ze7 I.hok eb) hd dd ?_
  have q:=(rel.val k).isSome_eq
  rw[Option.isSome_map] at q
  rw[<-q,<- l]
  exact h _ (I.tok _)
theorem ZhK {h':Heap} {t':Nat} {ob:HO} (I:Inv X pins σ H s) (mu:Mut (H a)) (hs:Heap.SameBut a s.heap h') (he:∃ q,h'.get? a=some q) (new:ObjOk X.prog X.w (upd H a ob) h' a ob) :
  Inv X pins σ (upd H a ob) { s with heap:=h',toks:=t' } :=
 I.write (x:=a) (e:=a) mu (.inl rfl) (fun b q hb z=>(hs.2 b hb).trans z) he new
theorem dk_new {P:Program} {w:World} {H':Hp} {h':Heap} {kvs:List (Key×V)} {vs:List (Key×Value)} (z:kvs.length<=sizeLine) (hd:(a == sysModules)=false) (rel:KV kvs vs) (dd:h'.DictOf (Zbt P w) a vs) :
  ObjOk P w H' h' a (.dK kvs):=⟨z,hd,vs,rel,dd⟩
theorem ZjX {H':Hp} {Q:Unit->Shared->Prop} (hu:A.units+1 < cLine) (I:Inv X pins σ H s) (g:DPut H a y v H') (ry:RelV y u) (rv:RelV v r) (h:∀ s',Inv X pins σ H' s'->Q () s') :
  wpAny (model X.prog X.w) A (setItem (.ref a) u r) Q E s:=by
 rcases g with ⟨kvs,k,e,ey,l,eH⟩|⟨kvs,k,b,e,ey,eb,l,eH⟩
 ·subst ey eH
  obtain ⟨z,hd,vs,rel,dd⟩:=dk_of I.hok e
  have hz:vs.length<=sizeLine:=by rw[<-rel.length];exact z
  have hl:(putK kvs k v).length<=sizeLine:=by have:=Zcs kvs k v;lia
  refine wpAny_setItem_pairs (hsz:=hz) (ZhD ry) dd fun h' dd' hs=>h _ ?_
  have he:∃ q,h'.get? a=some q:=let ⟨q,_,_,hq,_⟩:=dd';⟨q,hq⟩
  exact ZhK I (by rw[e];exact True.intro) hs he (dk_new hl hd (rel.put k rv) dd')
 ·subst ey eH
  cases (show u=Value.ref b from ry)
  obtain ⟨z,hd,xs,rel,dd⟩:=dt_of I.hok e
  have hz:xs.length<=sizeLine:=by rw[<-Paired.length rel];exact z
  have hl:(putK kvs k v).length<=sizeLine:=by have:=Zcs kvs k v;lia
  refine wpAny_setItem_heap (hsz:=hz) (tupleKind_room_in1 hu) (Ze7 I.hok eb) dd fun h' dd' hs=>h _ ?_
  obtain ⟨q,es,ep,hq,h2,h3,h4,_,h5⟩:=dd'
  refine ZhK I (by rw[e];exact True.intro) hs ⟨q,hq⟩ ⟨hl,hd,_,(rel.put k eb rv).keeps fun c ys ec=>?_,q,es,ep,hq,h2,h3,h4,h5⟩
  rw[Zax (Zmo ec e (fun z=>nomatch z))]
  exact ec
end
def NoSl (i:Expr):Prop:=∀ ov iv,subscripted i false ov iv=operate [ov,iv] (getItem ov iv)
theorem ZlP {prog:Program} {w:World} {A:Around} {E:Value->Shared->Prop} {s:Shared} {env:Env} {value slice:Expr} {pos:Pos} {T id:String} {Q:Value->Shared->Prop}
  (hl:typeLookup (.type T) "__getitem__"=pure (some (.builtin id))) (hs:NoSl slice)
  (h:wpAny (model prog w) A (eval value env) (fun o s₁=>wpAny (model prog w) A (eval slice env) (fun i s₂=>s₂.TypeIs o T/\wpAny (model prog w) A (getItem o i) Q E s₂) E s₁) E s) :
  wpAny (model prog w) A (eval (.Subscript value slice pos) env) Q E s:=by
 refine Subscript_ (wpAny_mono h (fun o s₁ h₁=>wpAny_mono h₁ (fun i s₂ h₂=>?_) fun _ _ x=>x) fun _ _ x=>x)
 obtain ⟨hT,h₂⟩:=h₂
 unfold subscriptTail
 refine wpAny_bind ?_
 rw[getitemInPython_of_ne hT.not_modules]
 refine wpAny_bind (wpAny_specialOf hT hl ?_)
 have fin:wpAny (model prog w) A (subscripted slice false o i) (fun r s₃=>wpAny (model prog w) A (letTemporaryGo value o r >>= fun _=>pure r) Q E s₃) E s₂:=by
  rw[hs o i]
  exact wpAny_operating (wpAny_mono h₂ (fun r s₃ h₃=>wpAny_bind (wpAny_letTemporaryGo (wpAny_pure h₃))) fun _ _ x=>x)
 first
  | exact wpAny_pure (wpAny_bind fin)
  | exact wpAny_bind (wpAny_pure (wpAny_bind fin))
  | exact wpAny_bind fin
theorem ZhI {X:Cx} {pins:List (Addr×Obj)} {σ:St} {H:Hp} {s:Shared} {a:Addr} {y:V} {o:Option V} (I:Inv X pins σ H s) (g:DGet H a y o):s.TypeIs (.ref a) "dict":=by
 rcases g with ⟨kvs,k,e,_,_⟩|⟨kvs,k,b,e,_,_,_⟩
 ·obtain ⟨_,_,vs,_,dd⟩:=ZhH I.hok e
  exact dd.typeIs
 ·obtain ⟨_,_,xs,_,dd⟩:=ZhG I.hok e
  exact dd.typeIs
def tDGet (td ty:TE):TE:=fun σ H Q=>td σ H fun x H1=>ty σ H1 fun y H2=>∃ a v,x=.ref a/\DGet H2 a y (some v)/\Q v H2
def tDIn (ty td:TE):TE:=fun σ H Q=>ty σ H fun y H1=>td σ H1 fun x H2=>∃ a o,x=.ref a/\DGet H2 a y o/\Q (.bl o.isSome) H2
def Zi4 (ty td:TE):TE:=fun σ H Q=>ty σ H fun y H1=>td σ H1 fun x H2=>∃ a o,x=.ref a/\DGet H2 a y o/\Q (.bl (!o.isSome)) H2
def sDPut (td ty tv:TE):TS:=fun D σ H=>tv σ H fun v H1=>td σ H1 fun x H2=>ty σ H2 fun y H3=>∃ a H4,x=.ref a/\DPut H3 a y v H4/\D.nx σ H4
section
variable {X:Cx} {o i e value:Expr} {pos pos' tpos:Pos} {td ty tv:TE}
theorem Zme (hu:X.A.units+1 < cLine) (ho:PE X o td) (hi:PE X i ty) (hs:NoSl i):PE X (.Subscript o i pos) (tDGet td ty):=by
 intro pins s σ H Q I h
 refine ZlP PySem.F.slot_dict_getitem.lookup hs (thn (ho pins s σ H _ I h) fun u s1 ⟨x,H1,I1,rx,q1⟩=>thn (hi pins s1 σ H1 _ I1 q1) fun iv s2 ⟨y,H2,I2,ry,a,v,ex,g,q2⟩=>?_)
 subst ex
 obtain rfl:u=Value.ref a:=rx
 exact ⟨ZhI I2 g,ZjY hu I2 g ry fun w' s3 I3 rw'=>⟨v,H2,I3,rw',q2⟩⟩
theorem pc_din (hu:X.A.units+1 < cLine) (hi:PE X i ty) (ho:PE X o td):PC X .In i o (tDIn ty td):=by
 intro pins s σ H Q I h
 refine thn (hi pins s σ H _ I h) fun iv s1 ⟨y,H1,I1,ry,q1⟩=>thn (ho pins s1 σ H1 _ I1 q1) fun u s2 ⟨x,H2,I2,rx,a,ov,ex,g,q2⟩=>?_
 subst ex
 obtain rfl:u=Value.ref a:=rx
 exact d_in hu I2 g ry fun s3 I3=>⟨.bl ov.isSome,H2,I3,rfl,q2⟩
theorem Zjz (hu:X.A.units+1 < cLine) (hi:PE X i ty) (ho:PE X o td):PC X .NotIn i o (Zi4 ty td):=by
 intro pins s σ H Q I h
 refine thn (hi pins s σ H _ I h) fun iv s1 ⟨y,H1,I1,ry,q1⟩=>thn (ho pins s1 σ H1 _ I1 q1) fun u s2 ⟨x,H2,I2,rx,a,ov,ex,g,q2⟩=>?_
 subst ex
 obtain rfl:u=Value.ref a:=rx
 exact ZmK hu I2 g ry fun s3 I3=>⟨.bl (!ov.isSome),H2,I3,rfl,q2⟩
theorem Zl7 (hu:X.A.units+1 < cLine) (ho:PE X o td) (hi:PE X i ty) (hv:PE X value tv) (hs:swapsWith value (some (.Subscript o i pos')) pos.line X.env=pure false) :
  PS X (.Assign [.Subscript o i pos'] value pos) (sDPut td ty tv):=by
 intro pins s σ H D I h
 refine wpAny_Assign_Subscript (thn (hv pins s σ H _ I h) fun r s1 ⟨v,H1,I1,rv,q1⟩=>thn (ho pins s1 σ H1 _ I1 q1) fun u s2 ⟨x,H2,I2,rx,q2⟩=>thn (hi pins s2 σ H2 _ I2 q2) fun iv s3 ⟨y,H3,I3,ry,a,H4,ex,g,q3⟩=>?_) hs
 subst ex
 obtain rfl:u=Value.ref a:=rx
 exact ZjX hu I3 g ry rv fun s4 I4=>⟨σ,H4,I4,q3⟩
end
theorem Zk2 {P:Program} {w:World} {H:Hp} (h:Heap) (hb:sysModules < h.objs.size):ObjOk P w H (h.push { cls:=.type "dict",data:=.dict #[] }) h.objs.size (.dT []) :=
 ⟨Nat.zero_le _,beq_eq_false_iff_ne.mpr (Ne.symm (Nat.ne_of_lt hb)),[],.nil,_,#[],0,Heap.get?_push_size _ rfl,⟨rfl,rfl,rfl⟩,rfl,rfl,nodup_nil⟩
def tDNewT:TE:=fun _ H Q=>∀ p,H p=none->Q (.ref p) (upd H p (.dT []))
section
variable {X:Cx} {pos:Pos}
theorem Zh6:PE X (.Dict [] [] pos) tDNewT:=fun pins s σ H Q I h =>
 wpAny_Dict_empty ⟨.ref s.heap.objs.size,_,I.laid (a:=s.heap.objs.size) (o:=.dT []) (t':=s.toks) (fun _ _ q=>Heap.get?_push_of_some _ q) (Nat.le_refl _) (Zk2 s.heap I.big),rfl,h _ (I.hok.fresh (Nat.le_refl _))⟩
end
structure M1 (X:Cx) (o:Expr) (m:Str) (apos:Pos) (e:Expr) (cpos:Pos):Prop where
 base:attributeBase o m X.env (eval o X.env)=eval o X.env
 few:((backTo cpos (starEach [e] X.env)).all (fun x=>!x.1) && (backToKw cpos (keywordEach [] X.env)).all (fun x=>x.1.isSome)
  && decide (([e]:List Expr).length+([]:List Keyword).length+(if ([]:List Keyword).isEmpty then 0 else 1) < 30))=true
 line:(apos.endLine == cpos.line)=true
 trees:backTo cpos (starEach [e] X.env)=[(false,eval e X.env)]
structure M2 (X:Cx) (o:Expr) (m:Str) (apos:Pos) (e f:Expr) (cpos:Pos):Prop where
 base:attributeBase o m X.env (eval o X.env)=eval o X.env
 few:((backTo cpos (starEach [e,f] X.env)).all (fun x=>!x.1) && (backToKw cpos (keywordEach [] X.env)).all (fun x=>x.1.isSome)
  && decide (([e,f]:List Expr).length+([]:List Keyword).length+(if ([]:List Keyword).isEmpty then 0 else 1) < 30))=true
 line:(apos.endLine == cpos.line)=true
 trees:backTo cpos (starEach [e,f] X.env)=[(false,eval e X.env),(false,eval f X.env)]
def IsD (H:Hp) (a:Addr):Prop:=(∃ kvs,Rd H a (.dK kvs))\/∃ kvs,Rd H a (.dT kvs)
theorem ZlA {X:Cx} {pins:List (Addr×Obj)} {σ:St} {H:Hp} {s:Shared} {a:Addr} (I:Inv X pins σ H s) (d:IsD H a) :
  s.TypeIs (.ref a) "dict"/\(∀ b,Value.ref a=.ref b->∃ ob,s.heap.get? b=some ob/\ob.dict=none)/\(a == sysModules)=false:=by
 rcases d with ⟨kvs,e⟩|⟨kvs,e⟩
 ·obtain ⟨_,hd,vs,_,dd⟩:=ZhH I.hok e
  refine ⟨dd.typeIs,fun b q=>?_,hd⟩
  cases q
  obtain ⟨ob,_,_,h1,h2,_⟩:=dd
  exact ⟨ob,h1,h2.2.1⟩
 ·obtain ⟨_,hd,xs,_,dd⟩:=ZhG I.hok e
  refine ⟨dd.typeIs,fun b q=>?_,hd⟩
  cases q
  obtain ⟨ob,_,_,h1,h2,_⟩:=dd
  exact ⟨ob,h1,h2.2.1⟩
section
variable {X:Cx} {pins:List (Addr×Obj)} {σ:St} {H:Hp} {s:Shared} {a:Addr} {y d:V} {u r:Value} {o:Option V} {A:Around} {E:Value->Shared->Prop}
theorem d_get1 {Q:Value->Shared->Prop} (hu:A.units+1 < cLine) (I:Inv X pins σ H s) (g:DGet H a y o) (ry:RelV y u) (h:∀ w' s',Inv X pins σ H s'->RelV (o.getD .non) w'->Q w' s') :
  wpAny (model X.prog X.w) A (call (.builtin "dict.get") [.ref a,u]) Q E s:=by
 rcases g with ⟨kvs,k,e,ey,l⟩|⟨kvs,k,b,e,ey,eb,l⟩
 ·subst ey
  obtain ⟨z,hd,vs,rel,dd⟩:=ZhH I.hok e
  refine call_meetsIn PySem.F.slot_dict_get dd.typeIs PySem.F.entry_dict_get (PySem.F.args_dict_get_2 _ _) (meets_dict_get (Zbt X.prog X.w) a (ZhD ry) hd) ⟨_,dd.mapOf,h _ _ (I.tok _) ?_⟩
  rw[l]
  exact (rel.val k).getD rfl
 ·subst ey
  cases (show u=Value.ref b from ry)
  obtain ⟨z,hd,xs,rel,dd⟩:=ZhG I.hok e
  refine call_meetsIn PySem.F.slot_dict_get dd.typeIs PySem.F.entry_dict_get (PySem.F.args_dict_get_2 _ _) (meetsH_dict_get (tupleKind (Zbt X.prog X.w)) a b hd) ⟨tupleKind_room_in1 hu,k,xs,Ze7 I.hok eb,dd,h _ _ (I.tok _) ?_⟩
  rw[l]
  exact (rel.val k).getD rfl
end
def Zlm (td ty:TE):TE:=fun σ H Q=>td σ H fun x H1=>∃ a,x=.ref a/\IsD H1 a/\ty σ H1 fun y H2=>∃ o,DGet H2 a y o/\Q (o.getD .non) H2
section
variable {X:Cx} {o e f:Expr} {apos cpos:Pos} {td ty tx:TE}
theorem ZkF (hu:X.A.units+1 < cLine) (ho:PE X o td) (he:PE X e ty) (m:M1 X o "get" apos e cpos):PE X (.Call (.Attribute o "get" apos) [e] [] cpos) (Zlm td ty):=by
 intro pins s σ H Q I h
 refine wpAny_Call_method m.base m.few m.line PySem.F.plainAttrs_dict PySem.F.slot_dict_get PySem.F.type_dict_get (thn (ho pins s σ H _ I h) fun u s1 ⟨x,H1,I1,rx,a,ex,d,q1⟩=>?_)
 subst ex
 obtain rfl:u=Value.ref a:=rx
 obtain ⟨t1,t2,_⟩:=ZlA I1 d
 refine ⟨t1,t2,?_⟩
 rw[m.trees]
 refine Calls.callWith_builtin rfl (Calls.evalArgs_plain (Calls.spliced_cons (thn (he pins s1 σ H1 _ I1 q1) fun iv s2 ⟨y,H2,I2,ry,ov,g,q2⟩=>Calls.spliced_nil ?_)))
 exact d_get1 hu I2 g ry fun w' s3 I3 rw'=>⟨_,H2,I3,rw',q2⟩
end
end L2
namespace Att
open PySem PySem.W PySem.Calls PyProof.Rows
theorem Ze9 {P:Params} {h:Heap}:∀ (ns:List Int) (vs:List Value),WellAll P h vs (ns.map WData.int)->IntsAre vs ns:=by
 intro ns
 induction ns with
 | nil =>
  intro vs w
  rw[map_nil] at w
  cases w
  exact .nil
 | cons n ns ih =>
  intro vs w
  rw[map_cons] at w
  cases w with
  | cons a b =>
   cases a
   exact .cons _ _ (ih _ b)
theorem Zjd {l:OpenLaw} {n:Nat} (hn:l.most=some n) {P:Params} {h:Heap} {args:List WData} {vals:List Value}
  (hpre:l.row.toRowW.claim.pre args=true) (hwl:WellAll P h vals args) :
  ∃ a vs ns,vals=[Value.ref a]/\args=[WData.list (ns.map WData.int)]/\h.get? a=some { cls:=.type "list",data:=.seq vs.toArray }/\IntsAre vs ns/\ns.length<=n:=by
 have hsh:WShape.hasAll [] args [.list .int]=true:=(pre_splitW hpre).1
 have hc:l.pre.holds [] { args:=args }=true:=(pre_splitW hpre).2
 obtain ⟨d,r,rfl,h1,h2⟩:=hasAllW_cons hsh
 obtain rfl:=hasAllW_nil h2
 obtain ⟨xs,rfl,h3⟩:=hasW_list h1
 obtain ⟨ns,rfl⟩:=items_int h3
 have hlen:ns.length<=n:=by
  unfold OpenLaw.pre at hc
  have h4:(WTm.not (.lt (.lit (.int (n:Int))) (.len (.arg 0)))).holds [] { args:=[.list (ns.map .int)] }=true:=by
   have h4:=(holds_andW hc).1
   rw[hn] at h4
   exact h4
  have h5:=condW_of h4 (w_not (w_lt w_lit (w_len_list (w_arg rfl))))
  rw[length_map] at h5
  refine Nat.le_of_not_lt fun q=>?_
  have q':(n:Int) < ((ns.length:Nat):Int):=by lia
  first
   | (rw[decide_eq_true q'] at h5;exact absurd h5 (by decide))
   | (simp at h5;lia)
 cases hwl with
 | cons w1 w2 =>
  cases w2
  cases w1 with
  | list ho hall=>exact ⟨_,_,ns,rfl,rfl,ho,Ze9 ns _ hall,hlen⟩
theorem Zjx (l:OpenLaw) (args:List WData):l.row.toRowW.claim.post args (.bool true) args=true :=
 postW_of (r:=l.row.toRowW) (X:=(true == true))
  (show WShape.has [] (.bool true) .bool=true by first|rfl|decide|simp[WShape.has,WShape.arms,WShape.armsAll])
  (show (WTm.eq .res (.lit (.bool true))).value [] { args:=args,res:=some (.bool true),after:=args }=some (.bool (true == true)) from w_eq_bool (w_res rfl) w_lit) rfl
theorem attach_call {l:OpenLaw} {n:Nat} {q:Program} {loose:List Str} {XP:(Str->Option Value)->Heap->Prop} {YP:World->Heap->Prop} {d:DefRec}
  (hn:l.most=some n) (hdf:d.params.defaults=[])
  (call:∀ (w:World) (s₀ s₁:Shared) (mg mb:Str->Option Value) (fa:Addr) (o:Obj) (pm cd doc:Value) (a:Addr) (vs:List Value) (ns:List Int),
   Ground q loose [] XP w s₀ mg mb s₁.heap->YP w s₁.heap ->
   s₁.heap.get? fa=some o->o.data=.func (docDef d.name d.params d.body d.scope pm cd doc)->s₁.heap.CodeRec cd d.name->mg d.name=some (.ref fa) ->
   s₁.heap.get? a=some { cls:=.type "list",data:=.seq vs.toArray }->IntsAre vs ns->ns.length<=n->s₁.gens=#[] ->
   codeAny (model l.prog w) callerA (.call (.ref fa) ⟨[.ref a],[]⟩) (fun r s'=>r=.ok (.ret (.bool true))/\OldK s₁.heap s'.heap/\s'.os=s₁.os/\AllBare s'.gens) s₁) :
  WalkO q loose XP YP l.row.toRowW d [] (fun f vs=>PySem.call f vs):=by
 intro w s₀ s₁ mg mb G Y fa o pm cd doc dV kV ho hd hcd hD hmg hg args vals as hpre hlay hrd hwl hlo
 obtain rfl:dV=.none:=Dflts.none hD hdf
 obtain rfl:kV=.none:=Dflts.noKw hD
 obtain ⟨a,vs,ns,rfl,rfl,hobj,hints,hlen⟩:=Zjd hn hpre hwl
 refine enter_call (codeAny_mono (call w s₀ s₁ mg mb fa o pm cd doc a vs ns G Y ho (fd_plain hd) hcd hmg hobj hints hlen hg) fun r s' hq=>?_)
 obtain ⟨rfl,h2,h3,h4⟩:=hq
 exact ⟨.inl ⟨.bool true,.bool true,[],rfl,fun _=>rfl,.bool true,Zjx l _,fun _=>⟨List.Pairwise.nil,fun _ hm=>(nomatch hm)⟩⟩,h2,h3,h4⟩
section
variable {prog:Program} {w:World} {A:Around} {E:Value->Shared->Prop} {s:Shared} {K:Frag}
def ledger (h:Heap) (L d:Addr):List (Addr×Obj):=(List.range h.objs.size).filterMap fun a=>if a=L\/a=d then none else (h.get? a).map fun o=>(a,o)
end
end Att
namespace L2
open PySem PySem.Spec PyProof.Rows
theorem Zgg:∀ {vs:List Value} {ns:List Int},IntsAre vs ns->Vals (ns.map V.int) vs
 | _,_,.nil=>.nil
 | _,_,.cons n t h=>.cons ⟨t,rfl⟩ (Zgg h)
def Only (H:Hp):Prop:=∀ b,H b=none\/∃ o xs,H b=some (.frz o (.lst xs))
theorem ZkO {P:Program} {w:World} {K:W.Frag} {mg mb:Str->Option Value} {CX:CXT} {k:Nat} {fa a:Addr} {fd:FuncData} {x:Str} {sp:Sp} {s₁:Shared} {vs:List Value} {ns:List Int}
  (KX:K.In s₁.heap) (hns:s₁.heap.Ns mainGlobals mg) (hb:s₁.heap.Ns builtinsNs mb) (hbb:∀ x:Str,x≠"__name__"->mb x=bootBuiltins x) (hlim:s₁.heap.NoLimit) (hg:s₁.gens=#[])
  (ha:s₁.heap.get? a=some { cls:=.type "list",data:=.seq vs.toArray }) (hi:IntsAre vs ns) (hl:ns.length<=sizeLine) (hr:Room k callerA)
  (F:∀ base:Heap,K.In base->base.Ns mainGlobals mg->FnOk P w K mg base CX k fa fd [x] sp) (hbind:∀ (s:Shared) (u:Value),BindsTo s fd ⟨[u],[]⟩ [(x,u)])
  (hsp:∀ H:Hp,Only H->SqL K H a (ns.map V.int)->sp [.ref a] H (fun v _=>v=.bl true) fun _ _ _=>False)
  (hCX:∀ H e s',CX [] H s₁ (fun _ _ _=>False) e s'->False) :
  codeAny (model P w) callerA (.call (.ref fa) ⟨[.ref a],[]⟩) (fun r s'=>r=.ok (.ret (.bool true))/\OldK s₁.heap s'.heap/\s'.os=s₁.os/\AllBare s'.gens) s₁:=by
 have rv:=Zgg hi
 have lenV:=hi.length
 have core:∀ H:Hp,Only H->SqL K H a (ns.map V.int)->HOk P w H s₁.heap->(∀ b,H b≠none->b=a)->(H a≠none->K.lookup a=none) ->
   codeAny (model P w) callerA (.call (.ref fa) ⟨[.ref a],[]⟩) (fun r s'=>r=.ok (.ret (.bool true))/\OldK s₁.heap s'.heap/\s'.os=s₁.os/\AllBare s'.gens) s₁:=by
  intro H hO hS hok hA hK
  have base_of:∀ {b:Addr} {o:Obj},s₁.heap.get? b=some o->H b=none->(hidT s₁.heap H).get? b=some o:=fun e n=>ZkT e n
  have noA:∀ {b:Addr} {o:Obj} {es:Array DictEntry} {ep:Nat},s₁.heap.get? b=some o->o.data=.dict es ep->H b=none:=fun {b o es ep} e d=>by
   cases q:H b with
   | none=>rfl
   | some u =>
    have e':b=a:=hA b (by rw[q];simp)
    subst e'
    rw[ha] at e;cases e
    have d':Data.seq vs.toArray _=Data.dict es ep:=d
    cases d'
  have nsK:∀ {b:Addr} {m:Str->Option Value},s₁.heap.Ns b m->(hidT s₁.heap H).Ns b m:=fun {b m} ⟨o,es,ep,e,d,r⟩=>⟨o,es,ep,base_of e (noA e d),d,r⟩
  have hKb:K.In (hidT s₁.heap H):=fun b o e=>base_of (KX b o e) (by
   cases q:H b with
   | none=>rfl
   | some u =>
    have e':b=a:=hA b (by rw[q];simp)
    subst e'
    rw[hK (by rw[q];simp)] at e;cases e)
  have hM:Mod K mg (hidT s₁.heap H):=⟨hKb,nsK hns,⟨mb,nsK hb,hbb⟩,let ⟨mc,h1,h2⟩:=hlim;⟨mc,nsK h1,h2⟩⟩
  have e0:Env0 P w K mg (hidT s₁.heap H) callerA [] s₁ H:=⟨rfl,hM,fun b o e=>Zmn e,Nat.le_of_eq (ZjS _ _),trivial,fun b hb=>absurd (show b∈([]:List Addr) from hb) (by simp),hok,.of_eq hg⟩
  refine codeAny_mono ((F _ hKb (nsK hns)).run callerA [] s₁ H ⟨[.ref a],[]⟩ [.ref a] [.ref a] _ _ hr e0 (hbind s₁ (.ref a)) (.cons rfl .nil) (hsp H hO hS)) fun r s' h=>?_
  cases r with
  | error e=>exact (hCX H e s' h).elim
  | ok fl =>
   cases fl with
   | next=>exact False.elim h
   | brk=>exact False.elim h
   | cont=>exact False.elim h
   | ret u =>
    obtain ⟨v,H',os,bare,un,hok',r',q⟩:=h
    have q':v=.bl true:=q
    subst q'
    obtain rfl:u=Value.bool true:=r'
    refine ⟨rfl,OldK.of_keep fun b o e=>?_,os,bare⟩
    cases q:H b with
    | none=>exact un.keep b o e q (by intro z;exact absurd (show b∈([]:List Addr) from z) (by simp)) (by simp)
    | some u =>
     rcases hO b with z|⟨ob,xs,z⟩
     ·rw[q] at z;cases z
     ·have z2:=un.frzs b ob _ z
      obtain ⟨e1,_⟩:=hok b _ z
      obtain ⟨e2,_⟩:=hok' b _ z2
      rw[e] at e1;cases e1
      exact e2
 cases hk:K.lookup a with
 | some o =>
  have e:=KX a o hk
  rw[ha] at e
  cases e
  refine core (fun _=>none) (fun _=>.inl rfl) (.inr ⟨_,vs.toArray,_,hk,rfl,rfl,rfl,by rw[size_toArray,lenV];exact hl,by simpa using rv⟩) (fun b u z=>by have z':(none:Option HO)=some u:=z;cases z') (fun b z=>absurd rfl z) fun z=>absurd rfl z
 | none =>
  refine core (fun b=>if b=a then some (.frz { cls:=.type "list",data:=.seq vs.toArray } (.lst (ns.map V.int))) else none) (fun b=>?_) (.inl (.inr ⟨{ cls:=.type "list",data:=.seq vs.toArray },if_pos rfl⟩)) (fun b u z=>?_) (fun b z=>?_) fun _=>hk
  ·by_cases hb:b=a
   ·exact .inr ⟨_,_,if_pos hb⟩
   ·exact .inl (if_neg hb)
  ·by_cases hb:b=a
   ·have z':=(if_pos hb).symm.trans z
    cases z'
    subst hb
    exact ⟨ha,by rw[length_map];exact hl,vs,_,rv,ha⟩
   ·have z':=(if_neg hb).symm.trans z
    cases z'
  ·by_cases hb:b=a
   ·exact hb
   ·exact absurd (if_neg hb) z
end L2
namespace L2
open PySem PySem.Spec PyProof.Rows
abbrev KOf {K:W.Frag} {h:Heap} (_:K.In h):W.Frag:=K
theorem ZiZ {l:PySem.W.OpenLaw} {n k:Nat} {q:Program} {loose:List Str} {XP:(Str->Option Value)->Heap->Prop} {YP:World->Heap->Prop} {d:DefRec} {K:Params->W.Frag} {CX:World->CXT} {sp:World->Sp} {x:Str}
  (hn:l.most=some n) (hn2:n<=sizeLine) (hdf:d.params.defaults=[]) (hr:Room k callerA)
  (hY:∀ (w:World) (h:Heap),YP w h->(K w.params).In h)
  (F:∀ (w:World) (mg:Str->Option Value) (fa:Addr) (h:Heap),(K w.params).In h->h.Ns mainGlobals mg->mg d.name=some (.ref fa) ->
   ∃ fd:FuncData,(∀ (s:Shared) (u:Value),BindsTo s fd ⟨[u],[]⟩ [(x,u)]) /\
    ∀ base:Heap,(K w.params).In base->base.Ns mainGlobals mg->FnOk l.prog w (K w.params) mg base (CX w) k fa fd [x] (sp w))
  (hsp:∀ (w:World) (H:Hp) (a:Addr) (ns:List Int),ns.length<=n->Only H->SqL (K w.params) H a (ns.map V.int)->sp w [.ref a] H (fun v _=>v=.bl true) fun _ _ _=>False)
  (hCX:∀ (w:World) (H:Hp) (s:Shared) (e:Value) (s':Shared),CX w [] H s (fun _ _ _=>False) e s'->False) :
  PySem.W.WalkO q loose XP YP l.row.toRowW d [] (fun f vs=>PySem.call f vs):=by
 refine Att.attach_call hn hdf fun w s₀ s₁ mg mb fa o pm cd doc a vs ns G Y ho hd hcd hmg hobj hints hlen hg=>?_
 have KX:=hY w _ Y
 obtain ⟨fd,hb,hF⟩:=F w mg fa _ KX G.T.g hmg
 exact ZkO KX G.T.g G.T.b G.T.builtins G.T.nolimit hg hobj hints (Nat.le_trans hlen hn2) hr hF hb (fun H hO hS=>hsp w H a ns hlen hO hS) fun H e s'=>hCX w H s₁ e s'
end L2
/- THE LAST THEOREM (shape; LID, My.* are yours):
   My.Adr: a structure of the addresses that your layer names (classes,functions);My.Txt K t: a structure (Prop) of the equations over K;
   My.txt_mk : {K} {implicit addresses ..} (e1 : nsIn K mainGlobals "law" = some (some (.ref f))) (e2 : K.lookup f = some ⟨oc, od, .func (fnOf "law" "law" params body scope dV kV doc pm an cdv ct), sl⟩) (e3 : codeIn K cdv "law" = true) .. : ∃ t, My.Txt K t
set_option maxHeartbeats 0 in
theorem PySem.Challenge.cw_LID_holds : PySem.Challenge.rw_LID.Holds := by
 w_on;o_law;k_head;(case hw=>w_witness2)
 k_fill
 refine L2.ZiZ (l:=PySem.Challenge.rw_LID) (n:=63) (k:=40) (x:="script") (CX:=fun w=>..) (sp:=fun _=>My.sp_law) rfl (by decide) rfl ⟨rfl,by decide,by decide⟩ (fun w h Y=>PySem.W.kIn_of Y) ?F ?S ?C
 case F =>
  intro w mg fa h KX G hmg
  have T:∃ t,My.Txt (L2.KOf KX) t:=by
   dsimp only [L2.KOf]                          -- K must stand as «<heap const> w.params» for k_is
   refine' My.txt_mk ?e1 ?e2 ?e3 ..
   (case e1=>PySem.W.k_is)                    -- in the order: a name -> its address -> its object -> its parts
   (case e2=>PySem.W.k_is)
   ..
  obtain ⟨t,T⟩:=T
  have e0:=hmg.symm.trans (PySem.W.mg_of KX G T.law)
  cases e0                                       -- fa is the law's own address
  exact ⟨_,fun s u=>.of_eq rfl,fun base kb nb=>My.ZjG T kb nb⟩     -- if «.of_eq rfl» comes too early: refine' ⟨_,?b,fun base kb nb=>My.ZjG T kb nb⟩;exact fun s u=>.of_eq rfl
 case S=>exact fun w H a ns hl hO hS=>..
 case C=>exact ..
(the tactic k_is has no namespace: write k_is) -/
namespace L2
open PySem PySem.Spec PyProof.Rows
def Zds (s:Stmt) (j:Nat):Stmt:=match s with
 | .ClassDef _ _ _ body _ _ _ _ _ _ _=>body.getD j (.Pass ⟨0,0,0,0⟩)
 | _=>.Pass ⟨0,0,0,0⟩
def ZbJ (s:Stmt):Arguments:=match s with
 | .FunctionDef _ a _ _ _ _ _ _ _ _=>a
 | _=>{ posonlyargs:=[],args:=[],vararg:=none,kwonlyargs:=[],kw_defaults:=[],kwarg:=none,defaults:=[] }
def Zbv (s:Stmt):List Stmt:=match s with
 | .FunctionDef _ _ b _ _ _ _ _ _ _=>b
 | _=>[]
def Zan (s:Stmt):Scope:=match s with
 | .FunctionDef _ _ _ _ _ _ sc _ _ _=>sc
 | _=>{ kind:=.function,names:=[],isGenerator:=false,isCoroutine:=false }
abbrev CX0:CXT:=fun _ _ _ _ _ _=>False
abbrev E0:XK:=fun _ _ _=>False
theorem ZkG {X:Cx}:Zfg CX0 X E0:=fun _ _ _ _ _ _ _ h=>h.elim
structure Fun (K:W.Frag) (x qual:Str) (st:Stmt) (f:Addr) (fd:FuncData):Prop where
 ex:∃ (oc:Value) (od:Option Addr) (kV doc pm:Value) (an:Option Addr) (cdv ct:Value) (osl:Array (Option Value)),
  fd=PySem.W.fnOf x qual (ZbJ st) (Zbv st) (Zan st) .none kV doc pm an cdv ct/\K.lookup f=some ⟨oc,od,.func fd,osl⟩/\PySem.W.codeIn K cdv qual=true
 kp:PySem.W.keepIn K (.ref f)=true
section
variable {P:Program} {w:World} {K:W.Frag} {mg:Str->Option Value} {base:Heap}
theorem Fun.ok {x qual:Str} {st:Stmt} {f:Addr} {fd:FuncData} {N ps:List Str} {k:Nat} {sp:Sp} (F:Fun K x qual st f fd) (S:FnScope N ps (Zan st)) (len:∀ vs H Q E,sp vs H Q E->vs.length=ps.length)
  (hbody:∀ (cdv:Value) (A:Around) (outer:List Env) (s:Shared) (H:Hp) (vs:List V) (Q:VK) (E:XK),Room k (A.deeper (envOfC qual (Zan st) s.heap.objs.size f cdv))->sp vs H Q E ->
   ∃ t,PSs (cxOf CX0 P w K mg base N qual (Zan st) f cdv A outer s H E).nox (Zbv st) t/\t { nx:=fun _ H'=>Q .non H',rt:=Q } (start N vs) H):FnOk P w K mg base CX0 (k+1) f fd ps sp:=by
 obtain ⟨oc,od,kV,doc,pm,an,cdv,ct,osl,rfl,lk,hcd⟩:=F.ex
 refine fn_of lk hcd S len fun A outer s H vs Q E hr hsp=>?_
 obtain ⟨t,h,q⟩:=hbody cdv A outer s H vs Q E hr hsp
 exact ⟨t,h.nox,q⟩
theorem Fun.binds {x qual:Str} {st:Stmt} {f:Addr} {fd:FuncData} {ps:List Str} (F:Fun K x qual st f fd)
  (h:∀ (kV doc pm:Value) (an:Option Addr) (cdv ct:Value) (us:List Value),us.length=ps.length->bindArgs (PySem.W.fnOf x qual (ZbJ st) (Zbv st) (Zan st) .none kV doc pm an cdv ct) ⟨us,[]⟩=pure (ps.zip us)):Binds K fd ps []:=by
 obtain ⟨oc,od,kV,doc,pm,an,cdv,ct,osl,rfl,lk,hcd⟩:=F.ex
 exact .all (h kV doc pm an cdv ct)
theorem ZbF {x qual:Str} {st:Stmt} {f:Addr} {oc:Value} {od an:Option Addr} {osl:Array (Option Value)} {kV doc pm cdv ct:Value} (l:K.lookup f=some ⟨oc,od,.func (PySem.W.fnOf x qual (ZbJ st) (Zbv st) (Zan st) .none kV doc pm an cdv ct),osl⟩)
  (c:PySem.W.codeIn K cdv qual=true) (k:PySem.W.keepIn K (.ref f)=true):Fun K x qual st f (PySem.W.fnOf x qual (ZbJ st) (Zbv st) (Zan st) .none kV doc pm an cdv ct):=⟨⟨oc,od,kV,doc,pm,an,cdv,ct,osl,rfl,l,c⟩,k⟩
end
theorem ZkS {A:Around} {k:Nat} (hr:Room k A):A.units+1 < cLine:=Nat.lt_of_le_of_lt (Nat.add_le_add_left (by decide:1<=64) _) hr.units
theorem Zgs {n:Nat} (h:n<=1000):n < sizeLine:=Nat.lt_of_le_of_lt h (by decide)
section
variable {X:Cx}
theorem pv (i:Nat) {x:Str} {pos:Pos} (hN:X.N[i]?=some x:=by rfl) (hv:Vis X.env.scope x:=by first|exact Or.inl rfl|exact Or.inr (Or.inl rfl)|exact Or.inr (Or.inr rfl)) (hd:(x == ("__debug__":Str))=false:=by decide)
  (hcd:(x == ("__classdict__":Str))=false:=by decide):PE X (.Name x pos) (tVar i):=pe_var hN hv hd hcd
end
theorem iteF {A B:Prop} (h:B):if false=true then A else B:=by
 rw[if_neg Bool.false_ne_true]
 exact h
theorem iteT {A B:Prop} (h:A):if true=true then A else B:=by
 rw[if_pos rfl]
 exact h
theorem iteNS {c A B:Prop} [Decidable c] (hc:c) (h:B):if (!decide c)=true then A else B:=by
 rw[decide_eq_true hc]
 exact iteF h
def Same (H H':Hp):Prop:=∀ b o,H b=some o->H' b=some o
theorem Same.refl (H:Hp):Same H H:=fun _ _ h=>h
theorem Same.trans {H H1 H2:Hp} (a:Same H H1) (b:Same H1 H2):Same H H2:=fun c o h=>b c o (a c o h)
theorem Same.free {H H':Hp} (e:Same H H') {l:Addr} (h:H' l=Option.none):H l=Option.none:=by
 cases q:H l with
 | none=>rfl
 | some o =>
  rw[e l o q] at h
  cases h
theorem Same.seq {K:W.Frag} {H H':Hp} {a:Addr} {xs:List V} (e:Same H H') (h:SqL K H a xs):SqL K H' a xs:=by
 rcases h with (h|⟨o,h⟩)|h
 ·exact .inl (.inl (e _ _ h))
 ·exact .inl (.inr ⟨o,e _ _ h⟩)
 ·exact .inr h
end L2
end
section
namespace L2
theorem opq {p:Prop} (h:let g:Prop:=p;g):p:=h
open PySem PySem.Spec PyProof.Rows
theorem Zey (env : Env) : ∀ (names : List (Str × NameKind)) (acc : List (Str × Addr)),
    (∀ y∈names,y.2=.free->∃ c,env.cells.lookup y.1=some c) ->
    ∃ cl : List (Str × Addr), (forIn names acc fun (x : Str × NameKind) (r : List (Str × Addr)) => (match x with
        | (name, kind) => if (kind == NameKind.free) = true then do
            let a <- cellOf env name
            pure (ForInStep.yield ((name,a)::r))
          else pure (ForInStep.yield r):Sem (ForInStep (List (Str×Addr)))))=(pure cl:Sem (List (Str×Addr))) /\
      (∀ x c,cl.lookup x=some c->acc.lookup x=some c\/env.cells.lookup x=some c) /\
      (∀ x,(acc.lookup x).isSome=true\/(x,NameKind.free)∈names->(cl.lookup x).isSome=true)
  | [], acc, _ => ⟨acc, by simp, fun x c h => .inl h, fun x h => h.elim id fun z => nomatch z⟩
  | (n, k) :: r, acc, h => by
    by_cases hk:k=.free
    · subst hk
      obtain ⟨c,hc⟩:=h (n,.free) mem_cons_self rfl
      obtain ⟨cl,e,h1,h2⟩:=Zey env r ((n,c)::acc) fun y hy=>h y (mem_cons_of_mem _ hy)
      refine ⟨cl,?_,fun x c' z=>?_,fun x z=>?_⟩
      · rw[forIn_cons]
        have q:cellOf env n=pure c:=by unfold cellOf;rw[hc]
        simp only[q,beq_self_eq_true,if_true,pure_bind]
        exact e
      · rcases h1 x c' z with z | z
        · rw[lookup_cons] at z
          by_cases hx:x=n
          · subst hx
            simp at z
            subst z
            exact .inr hc
          · have hb : (x == n) = false := by simpa using hx
            rw[hb] at z
            exact .inl z
        · exact .inr z
      · refine h2 x ?_
        rw[lookup_cons]
        by_cases hx:x=n
        · subst hx
          left
          simp
        · have hb : (x == n) = false := by simpa using hx
          rw[hb]
          rcases z with z|z
          · exact .inl z
          · rcases mem_cons.mp z with z | z
            · cases z
              exact absurd rfl hx
            · exact .inr z
    · obtain ⟨cl, e, h1, h2⟩ := Zey env r acc fun y hy => h y (mem_cons_of_mem _ hy)
      refine ⟨cl,?_,h1,fun x z=>h2 x ?_⟩
      · rw[forIn_cons]
        have hb:(k == NameKind.free)=false:=by simpa using hk
        simp only[hb,Bool.false_eq_true,if_false,pure_bind]
        exact e
      · rcases z with z | z
        · exact .inl z
        · rcases mem_cons.mp z with z | z
          · cases z
            exact absurd rfl hk
          · exact .inr z
theorem ZfB {scope:Scope} {env:Env} (h:∀ y∈scope.names,y.2=.free->∃ c,env.cells.lookup y.1=some c) :
  ∃ cl,closureFor scope env=pure cl/\(∀ x c,cl.lookup x=some c->env.cells.lookup x=some c)/\∀ x,(x,NameKind.free)∈scope.names->∃ c,cl.lookup x=some c:=by
 obtain ⟨cl,e,h1,h2⟩:=Zey env scope.names [] h
 refine ⟨cl,?_,fun x c z=>(h1 x c z).elim (fun q=>by simp at q) id,fun x z=>Option.isSome_iff_exists.mp (h2 x (.inr z))⟩
 unfold closureFor
 dsimp only
 rw[e]
 rfl
structure BkScope (N:List Str) (sc osc:Scope) (LN FN:List Str) (fr:List Nat):Prop where
 kind:sc.kind=.function
 nocell:∀ y∈sc.names,y.2≠.cell
 names:∀ x∈sc.names,x.2=.local->sc.names.lookup x.1=some .local
 free:∀ y∈sc.names,y.2=.free->osc.names.lookup y.1=some .cell\/osc.names.lookup y.1=some .free
 fnk:∀ x∈FN,osc.names.lookup x=some .cell\/osc.names.lookup x=some .free
 fnf:∀ x∈FN,sc.names.lookup x=some .free
 at':FN.map some=fr.map fun j=>N[j]?
theorem BkScope.place {N:List Str} {sc osc:Scope} {LN FN:List Str} {fr:List Nat} (S:BkScope N sc osc LN FN fr) {k:Nat} {x:Str} (e:FN[k]?=some x):∃ j:Nat,fr[k]?=some j/\N[j]?=some x:=by
 have h:=congrArg (fun l=>l[k]?) S.at'
 simp only[getElem?_map,e,Option.map_some] at h
 cases q:fr[k]? with
 | none=>rw[q] at h;cases h
 | some j =>
  rw[q] at h
  exact ⟨j,rfl,(Option.some.inj h).symm⟩
theorem BkScope.frl {N:List Str} {sc osc:Scope} {LN FN:List Str} {fr:List Nat} (S:BkScope N sc osc LN FN fr):fr.length=FN.length:=by
 have h:=congrArg List.length S.at'
 simpa using h.symm
def Zd1 (LN:List Str) (fr:List Nat) (σ:St):St:=List.replicate LN.length none++fr.map fun j=>(σ[j]?).getD none
def bkCx (X:Cx) (LN FN:List Str) (sc:Scope) (cl:List (Str×Addr)) (C:Addr) (fp:List Addr) (pins:List (Addr×Obj)) (s:Shared) (H:Hp):Cx :=
 { X with N:=LN++FN,s₀:=s,H₀:=H,env:=compEnvC sc cl C X.env,outer:=X.stack,ex:=fp,fn:=fun _=>false,pn:=X.pn++pins,xe:=fun _ _=>False }
theorem ZcJ {env : Env} : ∀ {names : List (Str × NameKind)} {x : Str} {k : NameKind},
    (names.map fun (n,k)=>if (k == NameKind.free && env.scope.kind == .function && env.kindOf n == some .cell) then (n,NameKind.cell) else (n,k)).lookup x=some k ->
    names.lookup x=some k\/(names.lookup x=some .free/\k=.cell)
  | [], _, _, h => by simp at h
  | (n, j) :: r, x, k, h => by
    have ih:=@ZcJ env r x k
    have h:List.lookup x ((if (j == NameKind.free && env.scope.kind == .function && env.kindOf n == some .cell)=true then (n,NameKind.cell) else (n,j))::_)=some k:=h
    rw[lookup_cons]
    by_cases hc:(j == NameKind.free && env.scope.kind == .function && env.kindOf n == some .cell)=true
    · rw[if_pos hc, lookup_cons] at h
      cases hx:x == n with
      | true =>
        rw[hx] at h
        simp only[Bool.and_eq_true,beq_iff_eq] at hc
        have hk:NameKind.cell=k:=by simpa using h
        exact .inr ⟨by simp[hc.1.1],hk.symm⟩
      | false =>
        rw[hx] at h
        exact ih h
    · rw[if_neg hc, lookup_cons] at h
      cases hx:x == n with
      | true =>
        rw[hx] at h
        exact .inl h
      | false =>
        rw[hx] at h
        exact ih h
theorem Zlf {X:Cx} {pins:List (Addr×Obj)} {σ:St} {H:Hp} {s:Shared} {LN FN:List Str} {fr:List Nat} {sc:Scope} {cl:List (Str×Addr)} {C:Addr} {fp:List Addr} {h':Heap} {tk:Nat} {m:Str->Option Value}
  (I:Inv X pins σ H s) (S:BkScope X.N sc X.env.scope LN FN fr) (hf:∀ b∈fp,FpOk X pins H b) (hfs:∀ b∈fp,∃ o,s.heap.get? b=some o)
  (h1:∀ x c,cl.lookup x=some c->X.env.cells.lookup x=some c) (h2:∀ x,(x,NameKind.free)∈sc.names->∃ c,cl.lookup x=some c)
  (hC:s.heap.objs.size<=C) (hk:∀ b o,s.heap.get? b=some o->h'.get? b=some o) (hn:h'.Ns C m) :
  Inv (bkCx X LN FN sc cl C fp pins s H) [] (Zd1 LN fr σ) H { s with heap:=h',toks:=tk }:=by
 have hsub:∀ b,b∉X.fs->b≠X.env.locals->b∉frs X.stack:=fun b n1 n2 z=>(mem_cons.mp (I.stkSub b z)).elim n2 n1
 have hlk:∀ x k,(relabel sc X.env).names.lookup x=some k->(k=.cell\/k=.free)->sc.names.lookup x=some .free:=fun x k e hk=>by
  rcases ZcJ e with q|⟨q,_⟩
  ·rcases hk with rfl|rfl
   ·exact absurd rfl (S.nocell _ (PySem.mem_of_lookup q))
   ·exact q
  ·exact q
 refine ⟨⟨I.ok.mod,?_,I.ok.glob,I.ok.blt,hC,fun x y c e1 e2=>I.ok.inj x y c (h1 x c e1) (h1 y c e2),fun x hx=>?_,(fun x c z=>absurd z (by intro z;cases z)),I.ok.hd,I.ok.frames,.inl rfl,fun b hb=>⟨?_,fun x c e z=>?_⟩,I.bs,Nat.le_trans I.ok.bsz I.sz,fun b o e hb=>?_,fun b hb=>?_,I.stack,I.stkFree⟩,
  rfl,I.bare,Un.kept hk,⟨m,hn,fun i x v e1 e2 e3=>?_⟩,fun x c e=>?_,?_,fun x c e=>I.freeC x c (h1 x c e),fun p hp=>?_,I.hok.kept hk,?_⟩
 ·exact S.kind
 ·have hx:(relabel sc X.env).names.lookup x=some .cell\/(relabel sc X.env).names.lookup x=some .free:=hx
  rcases hx with hx|hx
  ·exact h2 x (PySem.mem_of_lookup (hlk x _ hx (.inl rfl)))
  ·exact h2 x (PySem.mem_of_lookup (hlk x _ hx (.inr rfl)))
 ·obtain ⟨o,e⟩:=hfs b hb
  exact Nat.ne_of_lt (Nat.lt_of_lt_of_le (Heap.lt_size e) hC)
 ·exact (hf b hb).2.2.2.2.1 x c (h1 x c e) z
 ·obtain ⟨_,_,_,h3,_⟩:=hf b hb
  rcases h3 with z|z
  ·exact I.ok.noex b o e z
  ·exact absurd (Nat.lt_of_lt_of_le (Heap.lt_size (I.ok.bs b o e).1) z) (Nat.lt_irrefl _)
 ·obtain ⟨_,n1,n2,_⟩:=hf b hb
  exact hsub b n2 n1
 ·-- the free names' values
  have hi:LN.length<=i:=by
   refine Nat.le_of_not_lt fun hlt=>?_
   unfold Zd1 at e2
   rw[getElem?_append_left (by simpa using hlt),getElem?_replicate] at e2
   split at e2 <;> cases e2
  have e1:FN[i - LN.length]?=some x:=by
   have e1:(LN++FN)[i]?=some x:=e1
   rwa [getElem?_append_right hi] at e1
  obtain ⟨j,ej,hj⟩:=S.place e1
  have e2:(σ[j]?).getD none=some v:=by
   unfold Zd1 at e2
   rw[getElem?_append_right (by simpa using hi),length_replicate,getElem?_map,ej] at e2
   simpa using e2
  have e2:σ[j]?=some (some v):=by
   cases q:σ[j]? with
   | none=>rw[q] at e2;cases e2
   | some z =>
    rw[q] at e2
    exact congrArg some e2
  have hkx:=S.fnk x (mem_of_getElem? e1)
  obtain ⟨m0,hm0,hl⟩:=I.loc
  have hv:Vis X.env.scope x:=hkx.elim (fun z=>.inr (.inl z)) fun z=>.inr (.inr z)
  obtain ⟨u,r,l⟩:=hl j x v hj e2 hv
  refine ⟨u,r,?_⟩
  rcases l with ⟨k1,_⟩|⟨_,c,ec,z⟩
  ·have k1:X.env.scope.names.lookup x=some .local:=k1
   rcases hkx with q|q <;> rw[q] at k1 <;> cases k1
  ·have e3:Vis (relabel sc X.env) x:=e3
   rcases e3 with q|q|q
   ·-- a block's own name is none of the free ones,unless it shadows: then the kinds say local
    rcases ZcJ q with q'|⟨_,q'⟩
    ·rw[S.fnf x (mem_of_getElem? e1)] at q'
     cases q'
    ·cases q'
   ·obtain ⟨c',ec'⟩:=h2 x (PySem.mem_of_lookup (hlk x _ q (.inl rfl)))
    have:=h1 x c' ec'
    rw[ec] at this;cases this
    exact .inr ⟨.inl q,c,ec',by obtain ⟨o,ho,hd⟩:=z;exact ⟨o,hk _ _ ho,hd⟩⟩
   ·obtain ⟨c',ec'⟩:=h2 x (PySem.mem_of_lookup (hlk x _ q (.inr rfl)))
    have:=h1 x c' ec'
    rw[ec] at this;cases this
    exact .inr ⟨.inr q,c,ec',by obtain ⟨o,ho,hd⟩:=z;exact ⟨o,hk _ _ ho,hd⟩⟩
 ·obtain ⟨v,o,ho,hd⟩:=I.cell x c (h1 x c e)
  exact ⟨v,o,hk _ _ ho,hd⟩
 ·exact I.hok.fresh hC
 ·have hp:p∈(X.pn++pins)++[]:=hp
  rw[append_nil] at hp
  obtain ⟨e,n,ne,nf,d⟩:=I.pin p hp
  exact ⟨hk _ _ e,n,Nat.ne_of_lt (Nat.lt_of_lt_of_le (Heap.lt_size e) hC),hsub _ nf ne,d⟩
 ·unfold Zd1
  show _=(LN++FN).length
  simp[S.frl]
end L2
end
section
namespace L2
open PySem PySem.Spec PyProof.Rows
def PTs (X:Cx) (ifs:List Expr) (t:TT):Prop :=
 ∀ (pins:List (Addr×Obj)) (s:Shared) (σ:St) (H:Hp) (Q:Bool->Hp->Prop),Inv X pins σ H s->t σ H Q ->
  wpAny (model X.prog X.w) X.A (forIn ifs true fun c r=>if r=true then do let ok <- isTrue c X.env (eval c X.env);pure (ForInStep.yield ok) else pure (ForInStep.yield r)) (TP X pins σ Q) X.xe s
def Zfh:TT:=fun _ H Q=>Q true H
theorem ZbR {X:Cx}:PTs X [] Zfh:=fun _ _ _ H _ I h=>wpAny_tests_nil ⟨H,I,h⟩
theorem Un.track {fs ex:List Addr} {H H1:Hp} {h h1:Heap} {a:Addr} {o:HO} (u:Un fs ex H H1 h h1) (hp:h.objs.size<=a) (hn:H a=none):Un fs ex H (upd H1 a o) h h1 where
 keep:=u.keep
 slot:=u.slot
 free:=fun b ob q n hx=>by
  rw[Zax (Nat.ne_of_lt (Nat.lt_of_lt_of_le (Heap.lt_size q) hp))]
  exact u.free b ob q n hx
 there:=u.there
 tups:=fun b xs q=>by
  rw[Zax (fun z=>by rw[z,hn] at q;cases q)]
  exact u.tups b xs q
 frzs:=fun b ob x q=>by
  rw[Zax (fun z=>by rw[z,hn] at q;cases q)]
  exact u.frzs b ob x q
 tbls:=fun b ps q=>by
  rw[Zax (fun z=>by rw[z,hn] at q;cases q)]
  exact u.tbls b ps q
theorem HOk.track {P:Program} {w:World} {H:Hp} {h:Heap} {a:Addr} {o:HO} (x:HOk P w H h) (hn:H a=none) (new:ObjOk P w (upd H a o) h a o):HOk P w (upd H a o) h:=fun b u e=>by
 by_cases hb:b=a
 ·subst hb
  rw[Zag] at e
  cases e
  exact new
 ·rw[Zax hb] at e
  refine (x b u e).stay (fun _ _ _ q=>q) (fun c q=>?_) fun c xs q=>?_
  ·rw[Zax (fun z=>by rw[z,hn] at q;cases q)]
   exact q
  ·rw[Zax (fun z=>by rw[z,hn] at q;cases q)]
   exact q
theorem ZiL {EB:Value->Shared->Prop} {prog:Program} {w:World} {A:Around} {R:Result->Shared->Prop} {s:Shared} {elt target iter:Expr} {ifs:List Expr} {scope:Scope} {pos:Pos} {it acc:Value} {env:Env} (I:Nat->Shared->Prop)
  (turn:∀ n s,I n s->wpAny (model prog w) A (pyNext it) (fun r s₁=>match r with
   | none=>R (.ok .next) s₁
   | some v=>wpAny (model prog w) A (letOwnedTupleGo target it v) (fun _ s₁'=>wpAny (model prog w) A (assign target env v) (fun _ s₂ =>
     wpAny (model prog w) A (forIn ifs true fun c r=>if r=true then do let ok <- isTrue c env (eval c env);pure (ForInStep.yield ok) else pure (ForInStep.yield r)) (fun ok s₃ =>
      if ok=true then wpAny (model prog w) A (eval elt env) (fun x s₄ =>
       wpAny (model prog w) A (call (.builtin "list.append") [acc,x]) (fun _ s₅=>∃ m,m < n/\I m s₅) (fun _ _=>False) s₄) EB s₃
      else ∃ m,m < n/\I m s₃) (fun _ _=>False) s₂) (fun _ _=>False) s₁') (fun _ _=>False) s₁) (fun _ _=>False) s)
  (hEB:∀ e s',EB e s'->notedBy (model prog w) A env (fun e s'=>R (.error e) s') e s') (n:Nat) (h:I n s) :
  codeAny (model prog w) A (.compLoop (.ListComp elt [⟨target,iter,ifs,0⟩] scope pos) 0 it acc env) R s:=by
 refine codeAny_loop rfl I (fun n s hI=>?_) n h
 show wpAny _ A ((compTurn (.ListComp elt [⟨target,iter,ifs,0⟩] scope pos) 0 it acc env).onRaise (fun x=>do noteFrame x env;theTreesLotGoes x)) _ _ s
 refine wpAny_noted ?_
 rw[compTurn_list]
 refine wpAny_bind (wpAny_standAt (wpAny_bind (wpAny_mono (turn n s hI) (fun r s₁ h₁=>?_) fun _ _ h'=>h'.elim)))
 cases r with
 | none=>exact wpAny_pure h₁
 | some v =>
  refine wpAny_bind (wpAny_mono h₁ (fun _ s₁' h₁'=>?_) fun _ _ h'=>h'.elim)
  refine wpAny_bind (wpAny_mono h₁' (fun _ s₂ h₂=>wpAny_bind (wpAny_mono h₂ (fun ok s₃ h₃=>?_) fun _ _ h'=>h'.elim)) fun _ _ h'=>h'.elim)
  cases ok with
  | false=>exact wpAny_pure ⟨rfl,h₃⟩
  | true =>
   exact wpAny_bind (wpAny_bind (wpAny_mono h₃ (fun x s₄ h₄=>wpAny_bind (wpAny_mono h₄ (fun _ s₅ h₅=>wpAny_pure (wpAny_pure ⟨rfl,h₅⟩)) fun _ _ h'=>h'.elim)) fun e s' h'=>hEB e s' h'))
def Zkm (X:Cx) (C:Addr) (e:Value) (s':Shared):Prop:=∃ m,s'.heap.Ns C m/\∀ h',Heap.SameBut C s'.heap h'->∀ cenv:Env,cenv.locals=C->wpAny (model X.prog X.w) X.A (PySem.passOn "comprehension.variables-let-go" e cenv:Sem Value) (fun _ _=>False) X.xe { s' with heap:=h' }
def bkXe (X:Cx) (sc:Scope) (cl:List (Str×Addr)) (C:Addr):Value->Shared->Prop:=notedBy (model X.prog X.w) X.A (compEnvC sc cl C X.env) (Zkm X C)
def BkIn (X:Cx) (C:Addr) (fp:List Addr) (pins:List (Addr×Obj)) (s:Shared) (H:Hp):Prop:=(∃ σ,Inv X pins σ H s)/\(∀ b∈fp,FpOk X pins H b)/\s.heap.objs.size<=C
def bkX (X:Cx) (LN FN:List Str) (sc:Scope) (cl:List (Str×Addr)) (C:Addr) (fp:List Addr) (pins:List (Addr×Obj)) (s:Shared) (H:Hp):Cx:=(bkCx X LN FN sc cl C fp pins s H).wish (bkXe X sc cl C)
section
variable {X:Cx} {tg elt iter:Expr} {ifs:List Expr} {sc:Scope} {pos:Pos} {LN FN:List Str} {fr:List Nat} {wi:TI} {g:TG} {tt:TT} {te:TE}
def CW (J:It) (g:TG) (tt:TT) (te:TE) (W:Nat->Nat->List V->St->Hp->Prop) (Q:VK):Prop :=
 ∀ i m ys σ H,W i m ys σ H ->
  (J.stop i H/\ys.length<=sizeLine/\∀ p,H p=none->Q (.ref p) (upd H p (.lst ys))) \/
  (J.go i H/\∃ N:List V->St->Hp->Prop,(∀ ys' σ' H',N ys' σ' H'->∃ m',m' < m/\W (i+1) m' ys' σ' H') /\
   ∀ x H2,J.yld i H x H2->g x σ H2 fun σ2 H3=>tt σ2 H3 fun ok H4=>if ok=true then te σ2 H4 fun y H5=>ys.length < sizeLine/\N (ys++[y]) σ2 H5 else N ys σ2 H4)
def ZeS (LN:List Str) (fr:List Nat) (wi:TI) (g:TG) (tt:TT) (te:TE):TE:=fun σ H Q=>wi σ H fun J H1 =>
 ∃ W:Nat->Nat->List V->St->Hp->Prop,(∃ m,W 0 m [] (Zd1 LN fr σ) H1)/\CW J g tt te W Q
theorem Zki {pins:List (Addr×Obj)} {σ:St} {H2:Hp} {s2:Shared} {it:Addr} {fp:List Addr} {tn:Nat->Heap->Prop} {J:It} {cl:List (Str×Addr)} {W:Nat->Nat->List V->St->Hp->Prop} {Q:VK} {m0:Nat}
  {R:Value->Addr->Result->Shared->Prop} {E:Value->Shared->Prop}
  (hc:X.calm=true) (S:BkScope X.N sc X.env.scope LN FN fr)
  (hg:∀ cl C fp pins s H,PG (bkCx X LN FN sc cl C fp pins s H) tg g) (ht:∀ cl C fp pins s H,PTs (bkCx X LN FN sc cl C fp pins s H) ifs tt) (he:∀ cl C fp pins s H,BkIn X C fp pins s H->PE (bkX X LN FN sc cl C fp pins s H) elt te)
  (h1:∀ x c,cl.lookup x=some c->X.env.cells.lookup x=some c) (h2:∀ x,(x,NameKind.free)∈sc.names->∃ c,cl.lookup x=some c)
  (I2:Inv X pins σ H2 s2) (T:Turn X.prog X.w X.K tg J fp it tn) (st2:tn 0 s2.heap) (f2:∀ b∈fp,FpOk X pins H2 b) (w0:W 0 m0 [] (Zd1 LN fr σ) H2) (turn:CW J g tt te W Q)
  (hR:∀ D C s' H' ys m,s'.heap.Ns C m->Inv X pins σ (upd H' D (.lst ys)) s'->FpOk X pins (upd H' D (.lst ys)) C->Q (.ref D) (upd H' D (.lst ys))->R (.ref D) C (.ok .next) s') (hRE:∀ D C e s',Zkm X C e s'->R (.ref D) C (.error e) s') :
  wpAny (model X.prog X.w) X.A (newList []) (fun acc s₃=>wpAny (model X.prog X.w) X.A (newFunctionEnv sc X.env.globals cl [] X.env.qual none .none (some X.env)) (fun cenv s₄ =>
   codeAny (model X.prog X.w) X.A (.compStart (.ListComp elt [⟨tg,iter,ifs,0⟩] sc pos) 0 (.ref it) acc { cenv with scope:=relabel sc X.env }) (R acc cenv.locals) s₄) E s₃) E s2:=by
 refine wpAny_newObj_type (wpAny_newFunctionEnv S.nocell (by intro y hy;simp at hy) (fun h₁ hns hsb=>?_) S.kind)
 dsimp only at hns hsb ⊢
 generalize hH2:s2.heap.push { cls:=.type "list",dict:=none,data:=.seq ([]:List Value).toArray }=G at hns hsb ⊢
 have hC:G.objs.size=s2.heap.objs.size+1:=by rw[<-hH2,Heap.size_push]
 have hDC:s2.heap.objs.size≠G.objs.size:=by rw[hC];exact Nat.ne_of_lt (Nat.lt_succ_self _)
 have hCle:s2.heap.objs.size<=G.objs.size:=by rw[hC];exact Nat.le_succ _
 have old:∀ b o,s2.heap.get? b=some o->h₁.get? b=some o:=fun b o e =>
  hsb.extBut b o (by rw[hC];exact Nat.ne_of_lt (Nat.lt_succ_of_lt (Heap.lt_size e))) (Heap.get?_push_of_some _ (hH2▸Heap.get?_push_of_some _ e))
 have hacc:h₁.PlainList s2.heap.objs.size #[]:=⟨_,hsb.extBut _ _ hDC (Heap.get?_push_of_some _ (hH2▸Heap.get?_push_size _ rfl))⟩
 have hfs:∀ b∈fp,∃ o,s2.heap.get? b=some o:=fun b hb=>let ⟨o,e,_⟩:=T.obj 0 _ st2 b hb;⟨o,e⟩
 have hflt:∀ b∈fp,b < s2.heap.objs.size:=fun b hb=>let ⟨o,e⟩:=hfs b hb;Heap.lt_size e
 generalize hD:s2.heap.objs.size=D at *
 generalize hCC:G.objs.size=C at *
 have I0:=Zlf (LN:=LN) (cl:=cl) (C:=C) (tk:=s2.toks+([]:List (Str×Value)).length) I2 S f2 hfs h1 h2 (by rw[hD];exact hCle) old hns
 have hin:BkIn X C fp pins s2 H2:=⟨⟨σ,I2⟩,f2,by rw[hD];exact hCle⟩
 have fD:FpOk X pins H2 D:=I2.fpOk (Nat.le_of_eq hD) (I2.hok.fresh (Nat.le_of_eq hD))
 have stD:∀ {pl:List (Addr×Obj)} {H':Hp},H' D=none->(∀ p∈pl,p.1≠D)->FpOk (bkCx X LN FN sc cl C fp pins s2 H2) pl H' D:=fun {pl H'} hn hp=>by
  refine ⟨hn,hDC,fun z=>?_,.inr (Nat.le_of_eq hD),fun x c e=>fD.2.2.2.2.1 x c (h1 x c e),fun p hp'=>?_⟩
  ·exact (mem_cons.mp (I2.stkSub D z)).elim fD.2.1 fD.2.2.1
  ·have hp':p∈(X.pn++pins)++pl:=hp'
   rcases mem_append.mp hp' with q|q
   ·exact fD.2.2.2.2.2 p q
   ·exact hp p q
 have stat:∀ {pl:List (Addr×Obj)} {H':Hp},(∀ b∈fp,H' b=none)->(∀ p∈pl,p.1=D)->∀ b∈fp,FpOk (bkCx X LN FN sc cl C fp pins s2 H2) pl H' b:=fun {pl H'} hn hp b hb=>by
  obtain ⟨_,n1,n2,n3,n4,n5⟩:=f2 b hb
  refine ⟨hn b hb,Nat.ne_of_lt (Nat.lt_of_lt_of_le (hflt b hb) hCle),fun z=>?_,.inl hb,fun x c e=>n4 x c (h1 x c e),fun p hp'=>?_⟩
  ·exact (mem_cons.mp (I2.stkSub b z)).elim n1 n2
  ·have hp':p∈(X.pn++pins)++pl:=hp'
   rcases mem_append.mp hp' with q|q
   ·exact n5 p q
   ·rw[hp p q]
    exact Nat.ne_of_gt (hflt b hb)
 have pinD:∀ {s':Shared},∀ p∈Zcq [D] s'.heap,p.1=D:=fun p hp=>by simpa using (ZgB hp).1
 have key:∀ s₄:Shared,s₄={ s2 with heap:=h₁,toks:=s2.toks+([]:List (Str×Value)).length } ->
   codeAny (model X.prog X.w) X.A (.compLoop (.ListComp elt [⟨tg,iter,ifs,0⟩] sc pos) 0 (.ref it) (.ref D) (compEnvC sc cl C X.env)) (R (.ref D) C) s₄:=by
  rintro s₄ rfl
  refine ZiL (EB:=bkXe X sc cl C) (fun n s'=>∃ i ys σ' H' its,Inv (bkCx X LN FN sc cl C fp pins s2 H2) [] σ' H' s'/\tn i s'.heap/\(∀ b∈fp,H' b=none)/\W i n ys σ' H'/\Vals ys its/\s'.heap.PlainList D its.toArray/\H' D=none) ?_ (fun e s' h'=>wpAny_mono h' (fun _ s'' q=>hRE D C e s'' q) fun e' s'' q=>hRE D C e' s'' q) m0
   ⟨0,[],_,H2,[],I0,T.keep _ _ _ st2 (fun b _ o e=>old b o e),fun b hb=>(f2 b hb).1,w0,.nil,hacc,fD.1⟩
  rintro n s3 hh
  refine opq ?_
  intro gg
  obtain ⟨i,ys,σ3,H3,its,I3,st3,fr3,w3,rv,pl,nD⟩:=hh
  have plo:∃ o,s3.heap.get? D=some o/\∀ v,o.data≠.cell v:=by
   obtain ⟨k,e⟩:=pl
   exact ⟨_,e,fun v z=>by cases z⟩
  have I3':Inv (bkCx X LN FN sc cl C fp pins s2 H2) ([]++Zcq [D] s3.heap) σ3 H3 s3:=I3.pinned (fp:=[D]) (fun b hb=>by
   obtain rfl:b=D:=by simpa using hb
   exact stD nD (fun _ z=>nomatch z)) (fun b hb=>by
   obtain rfl:b=D:=by simpa using hb
   exact plo)
  have I3':Inv (bkCx X LN FN sc cl C fp pins s2 H2) (Zcq [D] s3.heap) σ3 H3 s3:=I3'
  have keepD:∀ {pl':List (Addr×Obj)} {σ':St} {H':Hp} {s':Shared},Inv (bkCx X LN FN sc cl C fp pins s2 H2) (Zcq [D] s3.heap++pl') σ' H' s'->s'.heap.PlainList D its.toArray/\H' D=none:=fun {pl' σ' H' s'} J=>by
   obtain ⟨k,e⟩:=pl
   have:=J.pin (D,_) (mem_append_right _ (mem_append_left _ (ZcT (by simp) e)))
   exact ⟨⟨k,this.1⟩,this.2.1⟩
  have keepD0:∀ {σ':St} {H':Hp} {s':Shared},Inv (bkCx X LN FN sc cl C fp pins s2 H2) (Zcq [D] s3.heap) σ' H' s'->s'.heap.PlainList D its.toArray/\H' D=none:=fun {σ' H' s'} J=>by
   refine keepD (pl':=[]) (σ':=σ') ?_
   rw[append_nil]
   exact J
  rcases turn i n ys σ3 H3 w3 with ⟨stop,hlen,q⟩|⟨go,N,hN,step⟩
  ·refine thn (T.done (bkCx X LN FN sc cl C fp pins s2 H2) rfl rfl rfl hc i (Zcq [D] s3.heap) s3 σ3 H3 _ I3' (stat fr3 (fun p hp=>pinD (s':=s3) p hp)) st3 stop) fun r s4 hh1=>?_
   refine opq ?_
   intro gg1
   obtain ⟨hr,I4⟩:=hh1
   subst hr
   obtain ⟨pl4,n4⟩:=keepD0 I4
   have u4:Un (frs X.stack) fp H2 (upd H3 D (.lst ys)) s2.heap s4.heap:=Un.track I4.base (Nat.le_of_eq hD) fD.1
   have nC:H3 C=none:=I4.free
   have o4:HOk X.prog X.w (upd H3 D (.lst ys)) s4.heap:=HOk.track I4.hok n4 (by
    obtain ⟨k,e⟩:=pl4
    exact ⟨hlen,its,k,rv,e⟩)
   have J:Inv X pins σ (upd H3 D (.lst ys)) s4:=I2.call' (s':=s4) (ch:=fp) I4.os u4 o4 I4.bare fun b hb=>by
    obtain ⟨_,n1,n2,n3,n4,n5⟩:=f2 b hb
    exact ⟨n3,n1,n4,n5⟩
   obtain ⟨m,hm,_⟩:=I4.loc
   exact hR D C s4 H3 ys m hm J (I2.fpOk (by rw[hD];exact hCle) (by rw[Zax (Ne.symm hDC)];exact nC)) (q D n4)
  ·refine thn (T.item (bkCx X LN FN sc cl C fp pins s2 H2) rfl rfl rfl hc i (Zcq [D] s3.heap) s3 σ3 H3 _ I3' (stat fr3 (fun p hp=>pinD (s':=s3) p hp)) st3 go) fun r s4 hh2=>?_
   refine opq ?_
   intro gg2
   obtain ⟨u,hr,h4⟩:=hh2
   subst hr
   refine thn h4 fun _ s5 hh3=>?_
   refine opq ?_
   intro gg3
   obtain ⟨x,H5,I5,r5,y5,st5,fr5⟩:=hh3
   have I5':=I5.pinned (stat fr5 (fun p hp=>pinD (s':=s3) p hp)) (T.obj _ _ st5)
   refine thn (hg cl C fp pins s2 H2 _ s5 σ3 H5 x u _ I5' r5 (step x H5 y5)) fun _ s6 hh4=>?_
   refine opq ?_
   intro gg4
   obtain ⟨σ6,H6,I6,q6⟩:=hh4
   refine thn (ht cl C fp pins s2 H2 _ s6 σ6 H6 _ I6 q6) fun ok s7 hh5=>?_
   obtain ⟨H7,I7,q7⟩:=hh5
   have again:∀ {s':Shared} {H':Hp},Inv (bkCx X LN FN sc cl C fp pins s2 H2) (Zcq [D] s3.heap++Zcq fp s5.heap) σ6 H' s'->tn (i+1) s'.heap/\∀ b∈fp,H' b=none:=fun {s' H'} J=>by
    refine ⟨T.keep _ _ _ st5 fun b hb o e=>(J.pin (b,o) (mem_append_right _ (mem_append_right _ (ZcT hb e)))).1,fun b hb=>?_⟩
    obtain ⟨o,e,d⟩:=T.obj _ _ st5 b hb
    exact (J.pin (b,o) (mem_append_right _ (mem_append_right _ (ZcT hb e)))).2.1
   have bare:∀ {s':Shared} {H':Hp},Inv (bkCx X LN FN sc cl C fp pins s2 H2) (Zcq [D] s3.heap++Zcq fp s5.heap) σ6 H' s'->Inv (bkCx X LN FN sc cl C fp pins s2 H2) [] σ6 H' s':=fun J=>J.pins_of fun p hp=>nomatch hp
   cases ok with
   | false =>
    rw[if_neg Bool.false_ne_true] at q7 ⊢
    obtain ⟨m',hm,w7⟩:=hN ys σ6 H7 q7
    obtain ⟨pl7,n7⟩:=keepD I7
    exact ⟨m',hm,i+1,ys,σ6,H7,its,bare I7,(again I7).1,(again I7).2,w7,rv,pl7,n7⟩
   | true =>
    rw[if_pos rfl] at q7 ⊢
    refine wpAny_mono (he cl C fp pins s2 H2 hin _ s7 σ6 H7 _ (I7.wish _) q7) (fun v s8 hz8=>?_) fun _ _ z=>z
    obtain ⟨y,H8,I8,r8,hl8,q8⟩:=hz8
    have I8:=I8.unwish
    obtain ⟨m',hm,w8⟩:=hN _ σ6 H8 q8
    obtain ⟨pl8,n8⟩:=keepD I8
    obtain ⟨t8,f8⟩:=again I8
    have hsz:its.toArray.size<=sizeLine:=by
     have:=rv.length
     rw[size_toArray,<- this]
     exact Nat.le_of_lt hl8
    refine wpAny_list_append_plain pl8 (fun h' pl' sb=>?_) hsz
    refine ⟨m',hm,i+1,ys++[y],σ6,H8,its++[v],?_,?_,f8,w8,rv.append (.cons r8 .nil),?_,n8⟩
    ·obtain ⟨d0,d1,d2,d3,d4,d5⟩:=stD (pl:=[]) n8 (fun _ z=>nomatch z)
     exact (bare I8).turned (t':=s8.toks) (fun b o hb e=>(sb.2 b hb).trans e) d0 d1 d3 d4 d5
    ·exact T.keep _ _ _ t8 fun b hb o e=>(sb.2 b (Nat.ne_of_lt (hflt b hb))).trans e
    ·simpa using pl'
 exact codeAny_compStart_list (key _ rfl) (T.self _ 0 _ _ _ (T.keep _ _ _ st2 fun b _ o e=>old b o e) (key _ rfl))
theorem PE.any {E:Value->Shared->Prop} {e:Expr} {t:TE} (h:PE X e t) (hx:X.xe=fun _ _=>False):PE (X.wish E) e t:=by
 intro pins s σ H Q I q
 refine wpAny_mono (h pins s σ H Q I.unwish q) (fun v s1 h1=>?_) (fun _ _ z=>by rw[hx] at z;exact z.elim)
 obtain ⟨y,H1,I1,r1,q1⟩:=h1
 exact ⟨y,H1,I1.wish E,r1,q1⟩
theorem Zb1 (hc:X.calm=true) (S:BkScope X.N sc X.env.scope LN FN fr) (hi:PI X tg iter wi)
  (hg:∀ cl C fp pins s H,PG (bkCx X LN FN sc cl C fp pins s H) tg g) (ht:∀ cl C fp pins s H,PTs (bkCx X LN FN sc cl C fp pins s H) ifs tt) (he:∀ cl C fp pins s H,PE (bkCx X LN FN sc cl C fp pins s H) elt te)
  (hs:∀ x,foldedSetIterable iter X.env x=pure x:=by intro _;rfl):PE X (.ListComp elt [⟨tg,iter,ifs,0⟩] sc pos) (ZeS LN fr wi g tt te):=by
 intro pins s σ H Q I h
 rw[eval_ListComp]
 obtain ⟨cl,ecl,h1,h2⟩:=ZfB (scope:=sc) (env:=X.env) fun y hy hk=>I.ok.has y.1 (S.free y hy hk)
 refine wpAny_comprehension_free (use:=none) rfl hs ecl S.kind S.names (thn (hi pins s σ H _ I h) fun v s1 q1=>thn q1 fun itv s2 q2=>?_)
 obtain ⟨it,fp,tn,J,H2,e,I2,T,st2,f2,W,⟨m0,w0⟩,turn⟩:=q2
 subst e
 refine Zki (R:=fun acc C=>compPost (model X.prog X.w) X.A X.xe none (EP X pins σ Q) acc C) hc S hg ht (fun cl C fp pins s H _=>(he cl C fp pins s H).any rfl) h1 h2 I2 T st2 f2 w0 turn (fun D C s' H' ys m hn J fC q=>?_) (fun _ _ _ _ z=>z)
 refine ⟨m,hn,fun h' sb=>⟨.ref D,_,J.turned (t':=s'.toks) (fun b o hb e=>(sb.2 b hb).trans e) fC.1 fC.2.1 fC.2.2.2.1 fC.2.2.2.2.1 fC.2.2.2.2.2,rfl,q⟩⟩
theorem Zl6 {i:Nat} {x:Str} {pos' pos2:Pos} (hc:X.calm=true) (hN:X.N.Nodup) (hix:X.N[i]?=some x) (hx:X.env.scope.names.lookup x=some .local) (S:BkScope X.N sc X.env.scope LN FN fr) (hi:PI X tg iter wi)
  (hg:∀ cl C fp pins s H,PG (bkCx X LN FN sc cl C fp pins s H) tg g) (ht:∀ cl C fp pins s H,PTs (bkCx X LN FN sc cl C fp pins s H) ifs tt) (he:∀ cl C fp pins s H,PE (bkCx X LN FN sc cl C fp pins s H) elt te)
  (hsw:swapsWith (.ListComp elt [⟨tg,iter,ifs,0⟩] sc pos) (some (.Name x pos')) pos2.line X.env=pure true:=by rfl)
  (hs:∀ x,foldedSetIterable iter X.env x=pure x:=by intro _;rfl):PS X (.Assign [.Name x pos'] (.ListComp elt [⟨tg,iter,ifs,0⟩] sc pos) pos2) (tAsg (ZeS LN fr wi g tt te) (ZaI i)):=by
 intro pins s σ H D0 I h
 rw[exec_Assign_Name_used _ _ _ _ hsw]
 refine wpAny_bind (wpAny_standAt (wpAny_bind ?_))
 show wpAny _ X.A (do let _ <- comprehension (.ListComp elt [⟨tg,iter,ifs,0⟩] sc pos) sc X.env _ (newList []) false (eval iter X.env) (some (assign (.Name x pos') X.env))) _ _ s
 obtain ⟨cl,ecl,h1,h2⟩:=ZfB (scope:=sc) (env:=X.env) fun y hy hk=>I.ok.has y.1 (S.free y hy hk)
 refine wpAny_bind (wpAny_mono (wpAny_comprehension_free (use:=some (assign (.Name x pos') X.env)) (Q:=fun _ s'=>SP X pins D0 .next s') rfl hs ecl S.kind S.names (thn (hi pins s σ H _ I h) fun v s1 q1=>thn q1 fun itv s2 q2=>?_))
  (fun _ s' hq=>wpAny_pure (wpAny_pure hq)) fun _ _ e=>e)
 obtain ⟨it,fp,tn,J,H2,e,I2,T,st2,f2,W,⟨m0,w0⟩,turn⟩:=q2
 subst e
 refine Zki (R:=fun acc C=>compPost (model X.prog X.w) X.A X.xe (some (assign (.Name x pos') X.env)) (fun _ s'=>SP X pins D0 .next s') acc C) hc S hg ht (fun cl C fp pins s H _=>(he cl C fp pins s H).any rfl) h1 h2 I2 T st2 f2 w0 turn (fun D C s' H' ys m hn J fC q=>?_) (fun _ _ _ _ z=>z)
 show wpAny _ X.A (assign (.Name x pos') X.env (.ref D)) _ _ s'
 refine wpAny_assign_Name (Zgi J hN hix (.inl hx) (show RelV (.ref D) (.ref D) from rfl) (fun s'' J2 ⟨a,sb2,ha⟩=>?_) (.inr hx))
 have nCa:C≠a:=by
  rcases ha with z|z
  ·rw[z];exact fC.2.1
  ·exact fun q=>fC.2.2.2.2.1 x a z q.symm
 refine ⟨m,hn.sameBut sb2 nCa,fun h' sb=>⟨_,_,J2.turned (t':=s''.toks) (fun b o hb e=>(sb.2 b hb).trans e) fC.1 fC.2.1 fC.2.2.2.1 fC.2.2.2.2.1 fC.2.2.2.2.2,q⟩⟩
end
inductive D where
 | non|bl (b:Bool)|int (i:Int)|str (x:Str)|tup (ds:List D)
mutual
def Rep (H:Hp):D->V->Prop
 | .non,v=>v=.non
 | .bl b,v=>v=.bl b
 | .int i,v=>v=.int i
 | .str x,v=>v=.str x
 | .tup ds,v=>∃ a xs,v=.ref a/\H a=some (.tup xs)/\Reps H ds xs
def Reps (H:Hp):List D->List V->Prop
 | [],vs=>vs=[]
 | d::ds,vs=>∃ v r,vs=v::r/\Rep H d v/\Reps H ds r
end
def TSame (H H':Hp):Prop:=∀ a xs,H a=some (.tup xs)->H' a=some (.tup xs)
theorem TSame.refl (H:Hp):TSame H H:=fun _ _ h=>h
theorem TSame.trans {H H1 H2:Hp} (a:TSame H H1) (b:TSame H1 H2):TSame H H2:=fun c o h=>b c o (a c o h)
theorem Same.ts {H H':Hp} (h:Same H H'):TSame H H':=fun a xs e=>h a _ e
theorem Same.new {H:Hp} {a:Addr} {o:HO} (h:H a=none):Same H (upd H a o):=fun b u e=>by rw[Zax (ZbV e h)];exact e
theorem TSame.wr {H:Hp} {a:Addr} {o:HO} (h:∀ xs,H a≠some (.tup xs)):TSame H (upd H a o):=fun b xs e=>by
 rw[Zax (fun z=>by subst z;exact h xs e)]
 exact e
mutual
theorem Rep.mono {H H' : Hp} (t : TSame H H') : ∀ {d : D} {v : V}, Rep H d v -> Rep H' d v
  | .non, _, h => by simpa [Rep] using h
  | .bl _, _, h => by simpa [Rep] using h
  | .int _, _, h => by simpa [Rep] using h
  | .str _, _, h => by simpa [Rep] using h
  | .tup ds, v, h => by
    rw[Rep] at h ⊢
    obtain ⟨a,xs,e,ha,r⟩:=h
    exact ⟨a, xs, e, t a xs ha, Reps.mono t r⟩
theorem Reps.mono {H H' : Hp} (t : TSame H H') : ∀ {ds : List D} {vs : List V}, Reps H ds vs -> Reps H' ds vs
  | [], _, h => by simpa [Reps] using h
  | d :: ds, vs, h => by
    rw[Reps] at h ⊢
    obtain ⟨v,r,e,h1,h2⟩:=h
    exact ⟨v, r, e, Rep.mono t h1, Reps.mono t h2⟩
end
theorem ZaR {H:Hp} {i:Int}:Rep H (.int i) (.int i):=by rw[Rep]
theorem ZbA {H:Hp} {a:Addr} {xs:List V} {ds:List D} (h:H a=some (.tup xs)) (r:Reps H ds xs):Rep H (.tup ds) (.ref a):=by rw[Rep];exact ⟨a,xs,rfl,h,r⟩
theorem ZaM {H:Hp}:Reps H [] []:=by rw[Reps]
theorem Zas {H:Hp} {d:D} {ds:List D} {v:V} {vs:List V} (h:Rep H d v) (r:Reps H ds vs):Reps H (d::ds) (v::vs):=by rw[Reps];exact ⟨v,vs,rfl,h,r⟩
theorem ZaK {H:Hp} {i:Int} {v:V} (h:Rep H (.int i) v):v=.int i:=by rwa [Rep] at h
theorem ZaG {H:Hp} {v:V} {ds:List D} (h:Rep H (.tup ds) v):∃ a xs,v=.ref a/\H a=some (.tup xs)/\Reps H ds xs:=by rwa [Rep] at h
theorem ZaD {H:Hp} {vs:List V} (h:Reps H [] vs):vs=[]:=by rwa [Reps] at h
theorem Zaj {H:Hp} {d:D} {ds:List D} {vs:List V} (h:Reps H (d::ds) vs):∃ v r,vs=v::r/\Rep H d v/\Reps H ds r:=by rwa [Reps] at h
theorem Reps.length {H : Hp} : ∀ {ds : List D} {vs : List V}, Reps H ds vs -> ds.length = vs.length
  | [], vs, h => by rw[ZaD h]; rfl
  | d :: ds, vs, h => by
    obtain ⟨v,r,rfl,_,h2⟩:=Zaj h
    simp[Reps.length h2]
theorem Reps.get {H : Hp} : ∀ {ds : List D} {vs : List V} {i : Nat} {d : D}, Reps H ds vs -> ds[i]? = some d -> ∃ v, vs[i]? = some v /\ Rep H d v
  | [], vs, i, d, h, e => by simp at e
  | d :: ds, vs, 0, d', h, e => by
    obtain ⟨v,r,rfl,h1,h2⟩:=Zaj h
    simp at e;subst e
    exact ⟨v,rfl,h1⟩
  | d :: ds, vs, i + 1, d', h, e => by
    obtain ⟨v,r,rfl,h1,h2⟩:=Zaj h
    obtain ⟨u,e1,e2⟩:=Reps.get (i:=i) (d:=d') h2 (by simpa using e)
    exact ⟨u, by simpa using e1, e2⟩
theorem Reps.get' {H:Hp} {ds:List D} {vs:List V} {i:Nat} {v:V} (h:Reps H ds vs) (e:vs[i]?=some v):∃ d,ds[i]?=some d/\Rep H d v:=by
 have hl:=h.length
 have hi:i < vs.length:=(List.getElem?_eq_some_iff.mp e).1
 obtain ⟨u,e1,e2⟩:=h.get (i:=i) (d:=ds[i]'(by lia)) (getElem?_eq_getElem (by lia))
 rw[e] at e1;cases e1
 exact ⟨_,getElem?_eq_getElem (by lia),e2⟩
theorem Reps.append {H : Hp} : ∀ {ds es : List D} {vs ws : List V}, Reps H ds vs -> Reps H es ws -> Reps H (ds ++ es) (vs ++ ws)
  | [], es, vs, ws, h, r => by rw[ZaD h]; exact r
  | d :: ds, es, vs, ws, h, r => by
    obtain ⟨v,q,rfl,h1,h2⟩:=Zaj h
    exact Zas h1 (Reps.append h2 r)
mutual
def D.pl:D->Bool
 | .bl _=>false
 | .tup ds=>D.pls ds
 | _=>true
def D.pls:List D->Bool
 | []=>true
 | d::ds=>d.pl && D.pls ds
end
mutual
def D.dep:D->Nat
 | .tup ds=>D.deps ds+1
 | _=>0
def D.deps:List D->Nat
 | []=>0
 | d::ds=>max d.dep (D.deps ds)
end
theorem D.pls_get : ∀ {ds : List D} {i : Nat} {d : D}, D.pls ds = true -> ds[i]? = some d -> d.pl = true
  | [], i, d, _, e => by simp at e
  | d :: ds, 0, d', h, e => by
    simp at e;subst e
    rw[D.pls,Bool.and_eq_true] at h
    exact h.1
  | d :: ds, i + 1, d', h, e => by
    rw[D.pls,Bool.and_eq_true] at h
    exact D.pls_get (i := i) h.2 (by simpa using e)
theorem D.deps_get : ∀ {ds : List D} {i : Nat} {d : D}, ds[i]? = some d -> d.dep <= D.deps ds
  | [], i, d, e => by simp at e
  | d :: ds, 0, d', e => by
    simp at e;subst e
    rw[D.deps];lia
  | d :: ds, i + 1, d', e => by
    have:=D.deps_get (ds:=ds) (i:=i) (d:=d') (by simpa using e)
    rw[D.deps]; lia
open Classical in
def eqD (d e:D):Bool:=decide (d=e)
theorem eqD_true {d e:D}:eqD d e=true↔d=e:=by unfold eqD;simp
theorem Zb8 {d:D}:eqD d d=true:=eqD_true.mpr rfl
theorem Za0 {d e:D} (h:d≠e):eqD d e=false:=by unfold eqD;simp[h]
theorem ZmI {i j:Int}:eqD (.int i) (.int j)=(i == j):=by
 by_cases h:i=j
 ·subst h;rw[Zb8];simp
 ·rw[Za0 (by intro z;cases z;exact h rfl)];simp[h]
theorem ZmH {i j:Str}:eqD (.str i) (.str j)=(i == j):=by
 by_cases h:i=j
 ·subst h;rw[Zb8];simp
 ·rw[Za0 (by intro z;cases z;exact h rfl)];simp[h]
def Zfk (ds es:List D) (f:D->D->Bool) (j:Nat):Bool:=match ds[j]?,es[j]? with|some a,some b=>f a b|_,_=>false
theorem Zf0 {ds es:List D}:((List.range (min ds.length es.length)).all (Zfk ds es eqD) && ds.length == es.length)=eqD (.tup ds) (.tup es):=by
 by_cases h:ds=es
 ·subst h
  rw[Zb8]
  simp only[beq_self_eq_true,Bool.and_true,all_eq_true,mem_range]
  intro j hj
  have hj:j < ds.length:=by lia
  unfold Zfk
  rw[getElem?_eq_getElem hj]
  exact Zb8
 ·rw[Za0 (by intro z;cases z;exact h rfl)]
  by_cases hl:ds.length=es.length
  ·rw[Bool.and_eq_false_iff]
   left
   rw[<-Bool.not_eq_true]
   intro hall
   apply h
   refine ext_getElem? fun j=>?_
   by_cases hj:j < ds.length
   ·have hj':j < es.length:=by lia
    have:=all_eq_true.mp hall j (mem_range.mpr (by lia))
    unfold Zfk at this
    rw[getElem?_eq_getElem hj,getElem?_eq_getElem hj'] at this
    rw[getElem?_eq_getElem hj,getElem?_eq_getElem hj',eqD_true.mp this]
   ·rw[getElem?_eq_none (by lia),getElem?_eq_none (by lia)]
  ·rw[Bool.and_eq_false_iff]
   right
   simpa using hl
section
variable {X:Cx} {pins:List (Addr×Obj)} {σ:St} {H:Hp} {s:Shared}
theorem Inv.isTup (I:Inv X pins σ H s) {a:Addr} {xs:List V} (h:H a=some (.tup xs)):∃ its:List Value,Vals xs its/\s.heap.IsTuple a its.toArray:=by
 obtain ⟨_,its,r,p⟩:=(show ObjOk X.prog X.w H s.heap a (.tup xs) from I.hok a _ h)
 exact ⟨its,r,p⟩
theorem ZgM (I:Inv X pins σ H s) {d e:D} {x y:V} {u v:Value} {A:Around} (hd:d.dep=0) (pd:d.pl=true) (pe:e.pl=true) (rd:Rep H d x) (re:Rep H e y) (ru:RelV x u) (rv:RelV y v) (hu:A.units < cLine):SeqAt.EqAt A s u v (eqD d e):=by
 cases d with
 | tup ds=>rw[D.dep] at hd;lia
 | bl b=>simp[D.pl] at pd
 | non =>
  rw[Rep] at rd;subst rd;cases ru
  cases e with
  | bl b=>simp[D.pl] at pe
  | non=>rw[Rep] at re;subst re;cases rv;rw[Zb8];exact SeqAt.EqAt.same _
  | int b=>rw[Rep] at re;subst re;obtain ⟨t,rfl⟩:=rv;rw[Za0 (by intro z;cases z)];exact SeqAt.EqAt.none_int b t
  | str b=>rw[Rep] at re;subst re;obtain ⟨t,rfl⟩:=rv;rw[Za0 (by intro z;cases z)];exact SeqAt.EqAt.none_str b t
  | tup es =>
   rw[Rep] at re
   obtain ⟨a,xs,rfl,ha,_⟩:=re
   cases rv
   obtain ⟨its,_,ht⟩:=I.isTup ha
   rw[Za0 (by intro z;cases z)]
   exact SeqAt.EqAt.none_tuple ht hu
 | int i =>
  rw[Rep] at rd;subst rd;obtain ⟨t,rfl⟩:=ru
  cases e with
  | bl b=>simp[D.pl] at pe
  | non=>rw[Rep] at re;subst re;cases rv;rw[Za0 (by intro z;cases z)];exact SeqAt.EqAt.int_none i t
  | int b=>rw[Rep] at re;subst re;obtain ⟨t',rfl⟩:=rv;rw[ZmI];exact SeqAt.EqAt.int_int i t b t'
  | str b=>rw[Rep] at re;subst re;obtain ⟨t',rfl⟩:=rv;rw[Za0 (by intro z;cases z)];exact SeqAt.EqAt.int_str i t b t'
  | tup es =>
   rw[Rep] at re
   obtain ⟨a,xs,rfl,ha,_⟩:=re
   cases rv
   obtain ⟨its,_,ht⟩:=I.isTup ha
   rw[Za0 (by intro z;cases z)]
   exact SeqAt.EqAt.int_tuple i t ht hu
 | str i =>
  rw[Rep] at rd;subst rd;obtain ⟨t,rfl⟩:=ru
  cases e with
  | bl b=>simp[D.pl] at pe
  | non=>rw[Rep] at re;subst re;cases rv;rw[Za0 (by intro z;cases z)];exact SeqAt.EqAt.str_none i t
  | int b=>rw[Rep] at re;subst re;obtain ⟨t',rfl⟩:=rv;rw[Za0 (by intro z;cases z)];exact SeqAt.EqAt.str_int i t b t'
  | str b=>rw[Rep] at re;subst re;obtain ⟨t',rfl⟩:=rv;rw[ZmH];exact SeqAt.EqAt.str_str i t b t'
  | tup es =>
   rw[Rep] at re
   obtain ⟨a,xs,rfl,ha,_⟩:=re
   cases rv
   obtain ⟨its,_,ht⟩:=I.isTup ha
   rw[Za0 (by intro z;cases z)]
   exact SeqAt.EqAt.str_tuple i t ht hu
mutual
theorem Rep.inj {H : Hp} : ∀ {d e : D} {v : V}, Rep H d v -> Rep H e v -> d = e
  | .non, .non, _, _, _ => rfl
  | .bl a, .bl b, v, h, h' => by simp only[Rep] at h h'; rw[h] at h'; cases h'; rfl
  | .int a, .int b, v, h, h' => by simp only[Rep] at h h'; rw[h] at h'; cases h'; rfl
  | .str a, .str b, v, h, h' => by simp only[Rep] at h h'; rw[h] at h'; cases h'; rfl
  | .tup ds, .tup es, v, h, h' => by
    rw[Rep] at h h'
    obtain ⟨a,xs,rfl,ha,r⟩:=h
    obtain ⟨b,ys,e,hb,r'⟩:=h'
    cases e
    rw[ha] at hb;cases hb
    rw[Reps.inj r r']
  | .non, .bl _, v, h, h' => by simp only[Rep] at h h'; rw[h] at h'; cases h'
  | .non, .int _, v, h, h' => by simp only[Rep] at h h'; rw[h] at h'; cases h'
  | .non, .str _, v, h, h' => by simp only[Rep] at h h'; rw[h] at h'; cases h'
  | .non, .tup _, v, h, h' => by simp only[Rep] at h h'; obtain ⟨_, _, e, _⟩ := h'; rw[h] at e; cases e
  | .bl _, .non, v, h, h' => by simp only[Rep] at h h'; rw[h] at h'; cases h'
  | .bl _, .int _, v, h, h' => by simp only[Rep] at h h'; rw[h] at h'; cases h'
  | .bl _, .str _, v, h, h' => by simp only[Rep] at h h'; rw[h] at h'; cases h'
  | .bl _, .tup _, v, h, h' => by simp only[Rep] at h h'; obtain ⟨_, _, e, _⟩ := h'; rw[h] at e; cases e
  | .int _, .non, v, h, h' => by simp only[Rep] at h h'; rw[h] at h'; cases h'
  | .int _, .bl _, v, h, h' => by simp only[Rep] at h h'; rw[h] at h'; cases h'
  | .int _, .str _, v, h, h' => by simp only[Rep] at h h'; rw[h] at h'; cases h'
  | .int _, .tup _, v, h, h' => by simp only[Rep] at h h'; obtain ⟨_, _, e, _⟩ := h'; rw[h] at e; cases e
  | .str _, .non, v, h, h' => by simp only[Rep] at h h'; rw[h] at h'; cases h'
  | .str _, .bl _, v, h, h' => by simp only[Rep] at h h'; rw[h] at h'; cases h'
  | .str _, .int _, v, h, h' => by simp only[Rep] at h h'; rw[h] at h'; cases h'
  | .str _, .tup _, v, h, h' => by simp only[Rep] at h h'; obtain ⟨_, _, e, _⟩ := h'; rw[h] at e; cases e
  | .tup _, .non, v, h, h' => by simp only[Rep] at h h'; obtain ⟨_, _, e, _⟩ := h; rw[h'] at e; cases e
  | .tup _, .bl _, v, h, h' => by simp only[Rep] at h h'; obtain ⟨_, _, e, _⟩ := h; rw[h'] at e; cases e
  | .tup _, .int _, v, h, h' => by simp only[Rep] at h h'; obtain ⟨_, _, e, _⟩ := h; rw[h'] at e; cases e
  | .tup _, .str _, v, h, h' => by simp only[Rep] at h h'; obtain ⟨_, _, e, _⟩ := h; rw[h'] at e; cases e
theorem Reps.inj {H : Hp} : ∀ {ds es : List D} {vs : List V}, Reps H ds vs -> Reps H es vs -> ds = es
  | [], [], _, _, _ => rfl
  | [], e :: es, vs, h, h' => by rw[ZaD h] at h'; obtain ⟨_, _, z, _⟩ := Zaj h'; cases z
  | d :: ds, [], vs, h, h' => by rw[ZaD h'] at h; obtain ⟨_, _, z, _⟩ := Zaj h; cases z
  | d :: ds, e :: es, vs, h, h' => by
    obtain ⟨v,r,rfl,h1,h2⟩:=Zaj h
    obtain ⟨v',r',z,h1',h2'⟩:=Zaj h'
    cases z
    rw[Rep.inj h1 h1', Reps.inj h2 h2']
end
theorem eqAt_D (I:Inv X pins σ H s):∀ (n:Nat) {d e:D} {x y:V} {u v:Value} {A:Around},d.dep<=n->d.pl=true->e.pl=true->Rep H d x->Rep H e y->RelV x u->RelV y v->A.units+n < cLine->SeqAt.EqAt A s u v (eqD d e):=by
 intro n
 induction n with
 | zero =>
  intro d e x y u v A hn pd pe rd re ru rv hu
  exact ZgM I (by lia) pd pe rd re ru rv (by lia)
 | succ n ih =>
  intro d e x y u v A hn pd pe rd re ru rv hu
  by_cases h0:d.dep=0
  ·exact ZgM I h0 pd pe rd re ru rv (by lia)
  ·cases d with
   | non=>simp[D.dep] at h0
   | bl _=>simp[D.dep] at h0
   | int _=>simp[D.dep] at h0
   | str _=>simp[D.dep] at h0
   | tup ds =>
    obtain ⟨a,xs,rfl,ha,r⟩:=ZaG rd
    cases ru
    obtain ⟨its,vx,ht⟩:=I.isTup ha
    cases e with
    | bl b=>simp[D.pl] at pe
    | non=>rw[Rep] at re;subst re;cases rv;rw[Za0 (by intro z;cases z)];exact SeqAt.EqAt.tuple_none ht (by lia)
    | int b=>rw[Rep] at re;subst re;obtain ⟨t,rfl⟩:=rv;rw[Za0 (by intro z;cases z)];exact SeqAt.EqAt.tuple_int b t ht (by lia)
    | str b=>rw[Rep] at re;subst re;obtain ⟨t,rfl⟩:=rv;rw[Za0 (by intro z;cases z)];exact SeqAt.EqAt.tuple_str b t ht (by lia)
    | tup es =>
     obtain ⟨b,ys,rfl,hb,r'⟩:=ZaG re
     cases rv
     by_cases hab:a=b
     ·subst hab
      rw[Rep.inj rd re,Zb8]
      exact SeqAt.EqAt.same _
     ·obtain ⟨its',vy,ht'⟩:=I.isTup hb
      refine SeqAt.EqAt.of_refs hab ?_
      have l1:=vx.length
      have l2:=vy.length
      have l3:=r.length
      have l4:=r'.length
      have key:=SeqAt.RcAt.tuples (A:=A) (e:=Zfk ds es eqD) ht ht' (by lia) fun j h1 h2=>?_
      ·rw[<-Zf0,l3,l4,l1,l2]
       simpa using key
      ·have h1':j < its.length:=by simpa using h1
       have h2':j < its'.length:=by simpa using h2
       have e1:ds[j]?=some (ds[j]'(by lia)):=getElem?_eq_getElem _
       have e2:es[j]?=some (es[j]'(by lia)):=getElem?_eq_getElem _
       obtain ⟨v1,q1,p1⟩:=r.get e1
       obtain ⟨v2,q2,p2⟩:=r'.get e2
       obtain ⟨u1,z1,w1⟩:=vx.get q1
       obtain ⟨u2,z2,w2⟩:=vy.get q2
       have y1:its.toArray[j]=u1:=by
        have:its[j]?=some its[j]:=getElem?_eq_getElem h1'
        rw[z1] at this
        simpa using (Option.some.inj this).symm
       have y2:its'.toArray[j]=u2:=by
        have:its'[j]?=some its'[j]:=getElem?_eq_getElem h2'
        rw[z2] at this
        simpa using (Option.some.inj this).symm
       rw[y1,y2]
       unfold Zfk
       rw[e1,e2]
       rw[D.dep] at hn
       have hdep:=D.deps_get e1
       rw[D.pl] at pd pe
       exact ih (by lia) (D.pls_get pd e1) (D.pls_get pe e2) p1 p2 w1 w2 (by show A.units+1+n < cLine;lia)
end
end L2
end
section
namespace L2
open PySem PySem.Spec PyProof.Rows
section
variable {X:Cx}
def rEqD:R2:=fun x y H Q=>∃ ds es,Rep H (.tup ds) x/\Rep H (.tup es) y/\D.pls ds=true/\D.pls es=true/\D.deps ds<=40/\Q (.bl (eqD (.tup ds) (.tup es))) H
theorem ZfX {X:Cx} {pins:List (Addr×Obj)} {σ:St} {H:Hp} {s:Shared} {A:Around} (I:Inv X pins σ H s) {ds es:List D} {xs ys:List V} {its its':List Value} (vx:Vals xs its) (vy:Vals ys its') (r:Reps H ds xs) (r':Reps H es ys) (pd:D.pls ds=true) (pe:D.pls es=true)
  (hd:D.deps ds<=40) (hu:A.units+40 < cLine):∀ j (h1:j < its.toArray.size) (h2:j < its'.toArray.size),SeqAt.EqAt A s its.toArray[j] its'.toArray[j] (Zfk ds es eqD j):=by
 intro j h1 h2
 have l1:=vx.length
 have l2:=vy.length
 have l3:=r.length
 have l4:=r'.length
 have h1':j < its.length:=by simpa using h1
 have h2':j < its'.length:=by simpa using h2
 have e1:ds[j]?=some (ds[j]'(by lia)):=getElem?_eq_getElem _
 have e2:es[j]?=some (es[j]'(by lia)):=getElem?_eq_getElem _
 obtain ⟨v1,q1,p1⟩:=r.get e1
 obtain ⟨v2,q2,p2⟩:=r'.get e2
 obtain ⟨u1,z1,w1⟩:=vx.get q1
 obtain ⟨u2,z2,w2⟩:=vy.get q2
 have y1:its.toArray[j]=u1:=by
  have:its[j]?=some its[j]:=getElem?_eq_getElem h1'
  rw[z1] at this
  simpa using (Option.some.inj this).symm
 have y2:its'.toArray[j]=u2:=by
  have:its'[j]?=some its'[j]:=getElem?_eq_getElem h2'
  rw[z2] at this
  simpa using (Option.some.inj this).symm
 rw[y1,y2]
 unfold Zfk
 rw[e1,e2]
 have hdep:=D.deps_get e1
 exact eqAt_D I 40 (by lia) (D.pls_get pd e1) (D.pls_get pe e2) p1 p2 w1 w2 hu
theorem op_eqD (hu:X.A.units+64 < cLine):OpR X (compareOp .Eq) rEqD:=by
 rintro pins s σ H x y v u Q I rx ry ⟨ds,es,h1,h2,pd,pe,hd,q⟩
 obtain ⟨a,xs,rfl,ha,r⟩:=ZaG h1
 obtain ⟨b,ys,rfl,hb,r'⟩:=ZaG h2
 cases rx;cases ry
 obtain ⟨its,vx,ht⟩:=I.isTup ha
 obtain ⟨its',vy,ht'⟩:=I.isTup hb
 refine SeqAt.eq_tupleAt (e:=Zfk ds es eqD) ht ht' (by lia) (ZfX (A:=X.A.in1) I vx vy r r' pd pe hd (by show X.A.units+1+40 < cLine;lia)) ?_
 refine ZaV I q ?_
 rw[<-Zf0,r.length,r'.length,vx.length,vy.length]
 simp
def rEqL (K:W.Frag):R2:=fun x y H Q=>∃ a b xs ys ds es,x=.ref a/\y=.ref b/\SqL K H a xs/\SqL K H b ys/\Reps H ds xs/\Reps H es ys/\D.pls ds=true/\D.pls es=true/\D.deps ds<=40/\Q (.bl (eqD (.tup ds) (.tup es))) H
def rNeL (K:W.Frag):R2:=fun x y H Q=>∃ a b xs ys ds es,x=.ref a/\y=.ref b/\SqL K H a xs/\SqL K H b ys/\Reps H ds xs/\Reps H es ys/\D.pls ds=true/\D.pls es=true/\D.deps ds<=40/\Q (.bl (!eqD (.tup ds) (.tup es))) H
theorem op_eqL (hu:X.A.units+64 < cLine):OpR X (compareOp .Eq) (rEqL X.K):=by
 rintro pins s σ H x y v u Q I rx ry ⟨a,b,xs,ys,ds,es,rfl,rfl,ha,hb,r,r',pd,pe,hd,q⟩
 cases rx;cases ry
 obtain ⟨its,vx,ht,_⟩:=I.list ha
 obtain ⟨its',vy,ht',_⟩:=I.list hb
 by_cases hl:its.length=its'.length
 ·refine SeqAt.eq_listAt (e:=Zfk ds es eqD) ht.isList ht'.isList (by simpa using hl) (by lia) (ZfX (A:=X.A.in1) I vx vy r r' pd pe hd (by show X.A.units+1+40 < cLine;lia)) ?_
  refine ZaV I q ?_
  rw[<-Zf0,r.length,r'.length,vx.length,vy.length,hl]
  simp[hl]
 ·refine SeqAt.eq_list_lengthsAt ht.isList ht'.isList (by simpa using hl) (by lia) (ZaV I q ?_)
  refine Za0 fun z=>hl ?_
  cases z
  rw[<-vx.length,<- vy.length,<- r.length,<- r'.length]
theorem Zlw (hu:X.A.units+64 < cLine):OpR X (compareOp .NotEq) (rNeL X.K):=by
 rintro pins s σ H x y v u Q I rx ry ⟨a,b,xs,ys,ds,es,rfl,rfl,ha,hb,r,r',pd,pe,hd,q⟩
 cases rx;cases ry
 obtain ⟨its,vx,ht,_⟩:=I.list ha
 obtain ⟨its',vy,ht',_⟩:=I.list hb
 by_cases hl:its.length=its'.length
 ·refine SeqAt.RcNeAt.lists (e:=Zfk ds es eqD) ht.isList ht'.isList (by simpa using hl) (by lia) (ZfX (A:=X.A.in1) I vx vy r r' pd pe hd (by show X.A.units+1+40 < cLine;lia)) _ _ _ _ ?_
  refine ZaV I q ?_
  rw[<-Zf0,r.length,r'.length,vx.length,vy.length,hl]
  simp[hl]
 ·refine SeqAt.RcNeAt.lists_lengths ht.isList ht'.isList (by simpa using hl) (by lia) _ _ _ _ (ZaV I q ?_)
  rw[Za0 fun z=>hl ?_]
  ·rfl
  ·cases z
   rw[<-vx.length,<- vy.length,<- r.length,<- r'.length]
def CBig (i j:Int):Prop:=i.natAbs < 2 ^ 8000/\j.natAbs < 2 ^ 8000
theorem Zir {i:Int} (h:i.natAbs < 2 ^ 8000):Builtin.Int.intBits i<=8000:=by
 unfold Builtin.Int.intBits
 by_cases h0:i=0
 ·simp[h0]
 ·have:(i == 0)=false:=by simpa using h0
  rw[this]
  have:=(Nat.log2_lt (show i.natAbs≠0 by lia)).mpr h
  simp
  lia
theorem CBig.ok {i j:Int} (h:CBig i j):IntMulOk i j:=by
 unfold IntMulOk
 have h1:=Zir h.1
 have h2:=Zir h.2
 have hb:Builtin.Int.intTooBig (Builtin.Int.intBits i+Builtin.Int.intBits j)=false:=by
  unfold Builtin.Int.intTooBig
  rw[decide_eq_false]
  have:(16000:Int)<=bitsLine:=by decide
  lia
 rw[hb]
 simp
theorem Zet:OpR X (binaryOp .Mult) (rI CBig fun i j=>.int (i * j)):=opI fun _ _ _ _ _ _ _ hc q=>mul_int q hc.ok
def Zko (i j:Int):Prop:=0 < j/\j.natAbs < 2 ^ 8000
theorem ZfS:OpR X (binaryOp .FloorDiv) (rI Zko fun i j=>.int (i / j)):=opI fun i j _ _ _ _ _ hc q=>by
 have hj:j≠0:=by have:=hc.1;lia
 refine floordiv_int hj ?_ (.inl (PyProof.noPylong_of_log2 ?_))
 ·rw[Int.fdiv_eq_ediv_of_nonneg _ (by have:=hc.1;lia)]
  exact q
 ·have:=(Nat.log2_lt (show j.natAbs≠0 by lia)).mpr hc.2
  lia
theorem Zk9 (hc:X.calm=true):Zdg X (.builtin "sum") (fun xs H Q=>∃ (a:Addr) (ns:List Int),xs=[.ref a]/\SqL X.K H a (ns.map V.int)/\Q (.int ns.sum) H):=by
 intro pins s σ H xs us Q I r h
 obtain ⟨a,ns,rfl,ha,q⟩:=h
 obtain ⟨u,rfl,ru⟩:=Zhc r
 cases ru
 obtain ⟨its,vx,ht,_⟩:=I.list ha
 have hi:=ZiI vx
 obtain ⟨ps,e⟩:=hi.allInts.items
 refine sum_intListG (xs:=ps) (I.ok.hd hc) (by rw[<-e];exact ht.isList) fun h' tk t' hk=>⟨.int ns.sum,H,I.kept hk,⟨t',?_⟩,q⟩
 congr 1
 rw[preSum_eq,take_of_length_le (by simp)]
 have e2:=hi.numsOf
 have e3:numsOf (intItems ps).toList=ns:=by rw[<-e];exact e2
 rw[nums_intItems] at e3
 rw[<-e3]
end
structure Callee (P:Program) (w:World) (K:W.Frag) (mg:Str->Option Value) (base:Heap) (x:Str) (k:Nat) (ps:List Str) (sp:Sp):Prop where
 ex:∃ f fd,FnOk P w K mg base CX0 k f fd ps sp/\mg x=some (.ref f)/\PySem.W.keepIn K (.ref f)=true/\Binds K fd ps []
theorem ZaS {X:Cx} {x:Str} {k:Nat} {ps:List Str} {sp:Sp} {p pos:Pos} {e:Expr} {es:List Expr} {t:TA} (C:Callee X.prog X.w X.K X.mg X.base x k ps sp) (hr:Room k X.A) (hg:Gl X x) (ha:PA X (e::es) t) (hdb:(x == ("__debug__":Str))=false:=by decide)
  (he:starEach (e::es) X.env=(false,eval e X.env)::starEach es X.env:=by rfl) (hpl:(backTo pos (starEach es X.env)).any (·.1)=false:=by rfl) :
  PE X (.Call (.Name x p) (e::es) [] pos) (ZaQ sp [] E0 t):=by
 obtain ⟨f,fd,F,hm,hk,hb⟩:=C.ex
 exact Zmg F hr hg hm hk hb .nil ZkG ha hdb he hpl
section
variable {K:W.Frag} {a:Addr} {xs:List V} {g:TG} {tt:TT} {te:TE} {Q:VK} {σ:St} {H:Hp}
def CN (Pv:Nat->List V->St->Hp->Prop) (i:Nat) (ys':List V) (σ':St) (H':Hp):Prop:=ys'.length<=i+1/\Pv (i+1) ys' σ' H'
theorem ZmL {J:It} (n:Nat) (hz:n<=sizeLine) (Pv:Nat->List V->St->Hp->Prop) (h0:Pv 0 [] σ H) (hgo:∀ i ys σ H,i < n->Pv i ys σ H->J.go i H) (hstop:∀ ys σ H,Pv n ys σ H->J.stop n H)
  (hs:∀ i x ys σ H H2,i < n->ys.length<=i->ys.length < sizeLine->Pv i ys σ H->J.yld i H x H2->g x σ H2 fun σ2 H3=>tt σ2 H3 fun ok H4=>if ok=true then te σ2 H4 fun y H5=>ys.length < sizeLine/\CN Pv i (ys++[y]) σ2 H5 else CN Pv i ys σ2 H4)
  (hd:∀ ys σ H,ys.length<=n->Pv n ys σ H->∀ p,H p=none->Q (.ref p) (upd H p (.lst ys))) :
  ∃ W:Nat->Nat->List V->St->Hp->Prop,(∃ m,W 0 m [] σ H)/\CW J g tt te W Q:=by
 refine ⟨fun i m ys σ H=>m=n - i/\i<=n/\ys.length<=i/\Pv i ys σ H,⟨n,by simp,Nat.zero_le _,Nat.le_refl _,h0⟩,?_⟩
 rintro i m ys σ H ⟨rfl,hi,hy,p⟩
 by_cases hlt:i < n
 ·exact .inr ⟨hgo i ys σ H hlt p,CN Pv i,fun ys' σ' H' p'=>⟨n - (i+1),by lia,rfl,hlt,p'.1,p'.2⟩,fun x H2 y=>hs i x ys σ H H2 hlt hy (by lia) p y⟩
 ·have e:i=n:=by lia
  subst e
  exact .inl ⟨hstop ys σ H p,by lia,hd ys σ H hy p⟩
theorem ZhL (hz:xs.length<=sizeLine) (Pv:Nat->List V->St->Hp->Prop) (h0:Pv 0 [] σ H) (hl:∀ i ys σ H,i<=xs.length->Pv i ys σ H->SqL K H a xs)
  (hs:∀ i x ys σ H,xs[i]?=some x->ys.length<=i->ys.length < sizeLine->Pv i ys σ H->g x σ H fun σ2 H3=>tt σ2 H3 fun ok H4=>if ok=true then te σ2 H4 fun y H5=>ys.length < sizeLine/\CN Pv i (ys++[y]) σ2 H5 else CN Pv i ys σ2 H4)
  (hd:∀ ys σ H,ys.length<=xs.length->Pv xs.length ys σ H->∀ p,H p=none->Q (.ref p) (upd H p (.lst ys))) :
  ∃ W:Nat->Nat->List V->St->Hp->Prop,(∃ m,W 0 m [] σ H)/\CW (Itl K a) g tt te W Q:=by
 refine ZmL xs.length hz Pv h0 (fun i ys σ H hi p=>⟨xs,xs[i],hl i ys σ H (Nat.le_of_lt hi) p,by simp[hi]⟩) (fun ys σ H p=>⟨xs,hl _ ys σ H (Nat.le_refl _) p,Nat.le_refl _⟩) (fun i x ys σ H H2 hi h1 h2 p y=>?_) hd
 obtain ⟨rfl,y⟩:=y
 exact hs i x ys σ _ (y xs (hl i ys σ _ (Nat.le_of_lt hi) p)) h1 h2 p
theorem ZeI (hz:xs.length<=sizeLine) (Pv:Nat->List V->St->Hp->Prop) (h0:Pv 0 [] σ H) (hl:∀ i ys σ H,i<=xs.length->Pv i ys σ H->SqT K H a xs)
  (hs:∀ i x ys σ H,xs[i]?=some x->ys.length<=i->ys.length < sizeLine->Pv i ys σ H->g x σ H fun σ2 H3=>tt σ2 H3 fun ok H4=>if ok=true then te σ2 H4 fun y H5=>ys.length < sizeLine/\CN Pv i (ys++[y]) σ2 H5 else CN Pv i ys σ2 H4)
  (hd:∀ ys σ H,ys.length<=xs.length->Pv xs.length ys σ H->∀ p,H p=none->Q (.ref p) (upd H p (.lst ys))) :
  ∃ W:Nat->Nat->List V->St->Hp->Prop,(∃ m,W 0 m [] σ H)/\CW (Itt K a) g tt te W Q:=by
 refine ZmL xs.length hz Pv h0 (fun i ys σ H hi p=>⟨xs,xs[i],hl i ys σ H (Nat.le_of_lt hi) p,by simp[hi]⟩) (fun ys σ H p=>⟨xs,hl _ ys σ H (Nat.le_refl _) p,Nat.le_refl _⟩) (fun i x ys σ H H2 hi h1 h2 p y=>?_) hd
 obtain ⟨rfl,y⟩:=y
 exact hs i x ys σ _ (y xs (hl i ys σ _ (Nat.le_of_lt hi) p)) h1 h2 p
theorem ZeR {lo:Int} {n:Nat} (hz:n<=sizeLine) (Pv:Nat->List V->St->Hp->Prop) (h0:Pv 0 [] σ H)
  (hs:∀ i ys σ H,i < n->ys.length<=i->ys.length < sizeLine->Pv i ys σ H->g (.int (lo+i)) σ H fun σ2 H3=>tt σ2 H3 fun ok H4=>if ok=true then te σ2 H4 fun y H5=>ys.length < sizeLine/\CN Pv i (ys++[y]) σ2 H5 else CN Pv i ys σ2 H4)
  (hd:∀ ys σ H,ys.length<=n->Pv n ys σ H->∀ p,H p=none->Q (.ref p) (upd H p (.lst ys))) :
  ∃ W:Nat->Nat->List V->St->Hp->Prop,(∃ m,W 0 m [] σ H)/\CW (Itr lo n) g tt te W Q:=by
 refine ZmL n hz Pv h0 (fun i ys σ H hi p=>hi) (fun ys σ H p=>Nat.le_refl _) (fun i x ys σ H H2 hi h1 h2 p y=>?_) hd
 obtain ⟨rfl,rfl⟩:=y
 exact hs i ys σ _ hi h1 h2 p
end
section
variable {σ:St} {H:Hp} {Q:VK} {v x y:V} {ta tb tc te:TE} {t u:TS} {c d:TT} {D':Ends} {r:R2} {g:TG} {i j:Int} {n:Nat} {K:W.Frag}
theorem Zjg (e:σ[n]?=some (some v)) (h:Q v H):tVar n σ H Q:=⟨v,e,h⟩
theorem rd_c (h:Q v H):tC v σ H Q:=h
theorem ZfM (h:ta σ H fun x H1=>tb σ H1 fun y H2=>r x y H2 Q):tOp r ta tb σ H Q:=h
theorem ZlT {r:V->Hp->VK->Prop} (h:ta σ H fun x H1=>r x H1 Q):tUn r ta σ H Q:=h
theorem Zbo (h:t { D' with nx:=u D' } σ H):tSeq t u D' σ H:=h
theorem Zbp (h:te σ H fun x H1=>g x σ H1 D'.nx):tAsg te g D' σ H:=h
theorem ZaC {R:St->Hp->Prop} (h:R (σ.set n (some v)) H):ZaI n v σ H R:=h
theorem Zh2 (h:te σ H D'.rt):tRet te D' σ H:=h
theorem Zhr (h:te σ H fun _ H1=>D'.nx σ H1):ZdI te D' σ H:=h
theorem Za5 (h:D'.nx σ H):ZbH D' σ H:=h
theorem Zkx (h:c σ H fun b H1=>if b=true then t D' σ H1 else u D' σ H1):tIfS c t u D' σ H:=h
theorem Zhh {R:Bool->Hp->Prop} (h:ta σ H fun x H'=>∃ k,x=.bl k/\R k H'):ZaW ta σ H R:=h
theorem ZlV {R:Bool->Hp->Prop} (h:ta σ H fun x H'=>∃ k,x=.bl k/\R k H'):tB ta σ H R:=h
theorem Zju {R:Bool->Hp->Prop} (h:c σ H fun b H1=>if b=true then d σ H1 R else R false H1):tAnd c d σ H R:=h
theorem ZlW {R:Bool->Hp->Prop} (h:c σ H fun b H1=>if b=true then R true H1 else d σ H1 R):tOr c d σ H R:=h
theorem Zjj {R:Bool->Hp->Prop} (h:c σ H fun b H1=>R (!b) H1):tNot c σ H R:=h
theorem ZeY {R:Bool->Hp->Prop} (h:R true H):Zfh σ H R:=h
theorem Zhw (h:ta σ H fun x H1=>∃ c,x=.bl c/\if c=true then tb σ H1 Q else Q (.bl false) H1):tAndV ta tb σ H Q:=h
theorem Zjq (h:c σ H fun b H1=>if b=true then ta σ H1 Q else tb σ H1 Q):tIf c ta tb σ H Q:=h
theorem Zjk {R:List V->Hp->Prop} (h:R [] H):tNil σ H R:=h
theorem Zht {tr:TA} {R:List V->Hp->Prop} (h:ta σ H fun x H1=>tr σ H1 fun xs H2=>R (x::xs) H2):Zae ta tr σ H R:=h
theorem Zl2 {rr:List V->Hp->VK->Prop} {ta:TA} (h:ta σ H fun vs H1=>rr vs H1 Q):tCB rr ta σ H Q:=h
theorem Zhv {sp:Sp} {E:XK} {ta:TA} (h:ta σ H fun vs H1=>sp (vs++[]) H1 Q E):ZaQ sp [] E ta σ H Q:=h
theorem Zl4 {f:Int->Int->V} (h:Q (f i j) H):rI0 f (.int i) (.int j) H Q:=⟨i,j,rfl,rfl,h⟩
theorem rd_I {C:Int->Int->Prop} {f:Int->Int->V} (hc:C i j) (h:Q (f i j) H):rI C f (.int i) (.int j) H Q:=⟨i,j,rfl,rfl,hc,h⟩
theorem rd_U {f:Int->V} (h:Q (f i) H):rU f (.int i) H Q:=⟨i,rfl,h⟩
theorem Zgx (h:Q (.bl (decide (i=j))) H):rEq (.int i) (.int j) H Q:=⟨rfl,by rw[Zf3,Bool.beq_eq_decide_eq];exact h⟩
theorem Zjl (h:Q (.bl (!decide (i=j))) H):rNe (.int i) (.int j) H Q:=⟨rfl,by rw[Zf3,Bool.beq_eq_decide_eq];exact h⟩
theorem Zb0 {a b:Str} (h:Q (.bl (decide (a=b))) H):rEq (.str a) (.str b) H Q:=⟨rfl,by rw[ZhJ,Bool.beq_eq_decide_eq];exact h⟩
theorem Zc8 {b:Bool} {R:Bool->Prop} (h:R b):∃ k,V.bl b=V.bl k/\R k:=⟨b,rfl,h⟩
theorem Zlo {ta:TA} (h:ta σ H fun xs H1=>xs.length<=sizeLine/\∀ p,H1 p=none->Q (.ref p) (upd H1 p (.tup xs))):tTup ta σ H Q:=h
theorem Zlr {ta:TA} (h:ta σ H fun xs H1=>xs.length<=sizeLine/\∀ p,H1 p=none->Q (.ref p) (upd H1 p (.lst xs))):tLst ta σ H Q:=h
theorem Zcv {n:Nat} (h:n<=1000):n<=sizeLine:=Nat.le_trans h (by decide)
theorem rd_ixT {p:Addr} {xs:List V} (h:H p=some (.tup xs)) (e:atI xs i=some v) (q:Q v H):rIxT K (.ref p) (.int i) H Q:=⟨p,xs,i,v,rfl,rfl,SqT.of h,e,q⟩
theorem rd_ixL {p:Addr} {xs:List V} (h:H p=some (.lst xs)) (e:atI xs i=some v) (q:Q v H):rIxL K (.ref p) (.int i) H Q:=⟨p,xs,i,v,rfl,rfl,SqL.of h,e,q⟩
theorem Zbh {p:Addr} {xs:List V} {k:Nat} {R:Hp->Prop} (h:H p=some (.lst xs)) (e:ixN xs.length i=some k) (q:R (upd H p (.lst (xs.set k v)))):Zco (.ref p) (.int i) v H R:=⟨p,xs,i,k,rfl,rfl,h,e,q⟩
theorem ZdP {to ti:TE} {ts:TSet} {R:St->Hp->Prop} (h:to σ H fun o H1=>ti σ H1 fun i H2=>ts o i v H2 fun H3=>R σ H3):gSub to ti ts v σ H R:=h
theorem ZfL {rr:V->Option Int->Option Int->Hp->VK->Prop} {tl th:TO} (h:te σ H fun x H1=>tl σ H1 fun l H2=>th σ H2 fun u H3=>rr x l u H3 Q):tSl rr te tl th σ H Q:=h
theorem ZeZ {R:Option Int->Hp->Prop} (h:R none H):Zi2 σ H R:=h
theorem Zhk {R:Option Int->Hp->Prop} (h:ta σ H fun x H1=>∃ i,x=.int i/\R (some i) H1):tPart ta σ H R:=h
theorem Zjp {R:Int->Prop} (h:R i):∃ k,V.int i=V.int k/\R k:=⟨i,rfl,h⟩
theorem Zl3 {T:String} {rr:V->List V->Hp->VK->Prop} {ta':TA} (h:ta σ H fun x H1=>tyV K T x H1/\ta' σ H1 fun xs H2=>rr x xs H2 Q):tBM K T rr ta ta' σ H Q:=h
theorem Zjt {T:String} {rr:V->List V->Hp->VK->Prop} (h:ta σ H fun x H1=>tyV K T x H1/\rr x [] H1 Q):tBM0 K T rr ta σ H Q:=h
theorem ZbM {l:Addr} {xs:List V} (h:H l=some (.lst xs)) (hz:xs.length < sizeLine) (q:Q .non (upd H l (.lst (xs++[y])))):ZcK (.ref l) [y] H Q:=⟨l,xs,y,rfl,rfl,h,hz,q⟩
theorem Zhu {LN:List Str} {fr:List Nat} {wi:TI} (h:wi σ H fun J H1=>∃ W:Nat->Nat->List V->St->Hp->Prop,(∃ m,W 0 m [] (Zd1 LN fr σ) H1)/\CW J g c te W Q):ZeS LN fr wi g c te σ H Q:=h
def itK (K:W.Frag) (R:It->Hp->Prop) (x:V) (H1:Hp):Prop:=∃ a,x=.ref a/\(∃ xs,SqT K H1 a xs)/\R (Itt K a) H1
def ilK (K:W.Frag) (R:It->Hp->Prop) (x:V) (H1:Hp):Prop:=∃ a,x=.ref a/\(∃ xs,SqL K H1 a xs)/\R (Itl K a) H1
def irK (R:It->Hp->Prop) (vs:List V) (H1:Hp):Prop:=∃ j:Int,vs=[.int j]/\-(2 ^ 62)<=j/\j < 2 ^ 62/\R (Itr 0 j.toNat) H1
theorem Zhn {R:It->Hp->Prop} {tl:TE} (h:tl σ H (itK K R)):iTup K tl σ H R:=h
theorem ZfO {R:It->Hp->Prop} {tl:TE} (h:tl σ H (ilK K R)):Zmz K tl σ H R:=h
theorem Zho {R:It->Hp->Prop} {ta':TA} (h:ta' σ H (irK R)):iRng1 ta' σ H R:=h
theorem ZfY {R:It->Hp->Prop} {x:V} {ds:List D} (h:Rep H (.tup ds) x) (q:∀ a xs,x=.ref a->H a=some (.tup xs)->Reps H ds xs->R (Itt K a) H):itK K R x H:=by
 obtain ⟨a,xs,rfl,ha,r⟩:=ZaG h
 exact ⟨a,rfl,⟨xs,SqT.of ha⟩,q a xs rfl ha r⟩
theorem ZgI {R:It->Hp->Prop} {a:Addr} {xs:List V} (h:SqL K H a xs) (q:R (Itl K a) H):ilK K R (.ref a) H:=⟨a,rfl,⟨xs,h⟩,q⟩
theorem ZgH {R:It->Hp->Prop} {j:Int} (h1:-(2 ^ 62)<=j) (h2:j < 2 ^ 62) (q:R (Itr 0 j.toNat) H):irK R [.int j] H:=⟨j,rfl,h1,h2,q⟩
theorem Zb4 {tg:TGs} {a:Addr} {xs:List V} {R:St->Hp->Prop} (h:H a=some (.tup xs)) (hl:xs.length=n) (q:tg xs σ H R):gTup K n tg (.ref a) σ H R:=⟨a,xs,rfl,SqT.of h,hl,q⟩
theorem ZfP {tg:TGs} {vs:List V} {R:St->Hp->Prop} (h:g v σ H fun σ' H'=>tg vs σ' H' R):ZcP g tg (v::vs) σ H R:=⟨v,vs,rfl,h⟩
theorem Zhq {R:St->Hp->Prop} (h:R σ H):gNil [] σ H R:=⟨rfl,h⟩
theorem Zjr {wi:TI} (h:wi σ H fun J H1=>∃ W:Nat->Nat->St->Hp->Prop,(∃ m,W 0 m σ H1)/\∀ i m σ H,W i m σ H ->
 (J.stop i H/\D'.nx σ H)\/(J.go i H/\∃ N:St->Hp->Prop,(∀ σ' H',N σ' H'->∃ m',m' < m/\W (i+1) m' σ' H')/\∀ x H',J.yld i H x H'->g x σ H' fun σ2 H2=>t { D' with nx:=N,ct:=N,bk:=D'.nx } σ2 H2)):tFor wi g t D' σ H:=h
end
theorem bt_abs:bootBuiltins "abs"=some (.builtin "abs"):=by decide +kernel
theorem Zcu:bootBuiltins "len"=some (.builtin "len"):=by decide +kernel
theorem ZlK:bootBuiltins "sum"=some (.builtin "sum"):=by decide +kernel
theorem bt_int:bootBuiltins "int"=some (.type "int"):=by decide +kernel
theorem ZdG:bootBuiltins "tuple"=some (.type "tuple"):=by decide +kernel
theorem ZdZ:bootBuiltins "list"=some (.type "list"):=by decide +kernel
theorem Zg4:bootBuiltins "enumerate"=some (.type "enumerate"):=by decide +kernel
def bkOk (N:List Str) (sc osc:Scope) (FN:List Str) (fr:List Nat):Bool :=
 decide (sc.kind=.function) && sc.names.all (fun y=>decide (y.2≠.cell)) && sc.names.all (fun y=>decide (y.2=.local->sc.names.lookup y.1=some .local)) &&
 sc.names.all (fun y=>decide (y.2=.free->osc.names.lookup y.1=some .cell\/osc.names.lookup y.1=some .free)) &&
 FN.all (fun x=>decide (osc.names.lookup x=some .cell\/osc.names.lookup x=some .free)) && FN.all (fun x=>decide (sc.names.lookup x=some .free)) && decide (FN.map some=fr.map fun j=>N[j]?)
theorem Zd0 {N:List Str} {sc osc:Scope} {LN FN:List Str} {fr:List Nat} (h:bkOk N sc osc FN fr=true):BkScope N sc osc LN FN fr:=by
 unfold bkOk at h
 simp only[Bool.and_eq_true,all_eq_true,decide_eq_true_eq] at h
 obtain ⟨⟨⟨⟨⟨⟨h1,h2⟩,h3⟩,h4⟩,h5⟩,h6⟩,h7⟩:=h
 exact ⟨h1,h2,h3,h4,h5,h6,h7⟩
section
variable {X:Cx}
def rIxA (K:W.Frag):R2:=fun x y H Q=>rIxL K x y H Q\/rIxT K x y H Q
theorem ix_any:IxR X (rIxA X.K):=ix_list.or ix_tup
theorem Zaq {K:W.Frag} {H:Hp} {p:Addr} {xs:List V} {i:Int} {v:V} {Q:VK} (h:H p=some (.tup xs)) (e:atI xs i=some v) (q:Q v H):rIxA K (.ref p) (.int i) H Q:=.inr (rd_ixT h e q)
theorem Zak {K:W.Frag} {H:Hp} {p:Addr} {xs:List V} {i:Int} {v:V} {Q:VK} (h:H p=some (.lst xs)) (e:atI xs i=some v) (q:Q v H):rIxA K (.ref p) (.int i) H Q:=.inl (rd_ixL h e q)
theorem Zaw {α:Type} {xs:List α} {i:Int} {n:Nat} {v:α} (hi:i=(n:Int)) (h:xs[n]?=some v):atI xs i=some v:=by
 subst hi
 have hl:n < xs.length:=(List.getElem?_eq_some_iff.mp h).1
 unfold atI ixN
 rw[if_pos (by lia),if_pos (by lia)]
 simpa using h
theorem ZgF {m:Nat} {i:Int} {n:Nat} (hi:i=(n:Int)) (h:n < m):ixN m i=some n:=by
 subst hi
 unfold ixN
 rw[if_pos (by lia),if_pos (by lia)]
 simp
theorem Zfw {K:W.Frag} {H:Hp} {x:V} {ds:List D} {i:Int} {n:Nat} {d:D} {Q:VK} (h:Rep H (.tup ds) x) (hi:i=(n:Int)) (e:ds[n]?=some d) (q:∀ v,Rep H d v->Q v H):rIxA K x (.int i) H Q:=by
 obtain ⟨a,xs,rfl,ha,r⟩:=ZaG h
 obtain ⟨v,ev,rv⟩:=r.get e
 exact Zaq ha (Zaw hi ev) (q v rv)
theorem Zjn {K:W.Frag} {H:Hp} {x:V} {ds:List D} {i:Int} {n:Nat} {k:Int} {Q:VK} (h:Rep H (.tup ds) x) (hi:i=(n:Int)) (e:ds[n]?=some (.int k)) (q:Q (.int k) H):rIxA K x (.int i) H Q :=
 Zfw h hi e fun v r=>by rw[ZaK r];exact q
def rLen (K:W.Frag):List V->Hp->VK->Prop:=fun xs H Q=>∃ x n,xs=[x]/\LenV K x H n/\Q (.int n) H
theorem Zj6:Zdg X (.builtin "len") (rLen X.K):=Zla
theorem ZbD {K:W.Frag} {H:Hp} {p:Addr} {ys:List V} {Q:VK} (h:SqL K H p ys) (q:Q (.int ys.length) H):rLen K [.ref p] H Q:=⟨_,_,rfl,.inl ⟨ys,h,rfl⟩,q⟩
def rAbs:List V->Hp->VK->Prop:=fun xs H Q=>∃ i,xs=[.int i]/\Q (.int (if i < 0 then -i else i)) H
theorem Zka:Zdg X (.builtin "abs") rAbs:=Zlb
theorem Zjv {H:Hp} {i:Int} {Q:VK} (q:Q (.int (if i < 0 then -i else i)) H):rAbs [.int i] H Q:=⟨i,rfl,q⟩
def rSum (K:W.Frag):List V->Hp->VK->Prop:=fun xs H Q=>∃ (a:Addr) (ns:List Int),xs=[.ref a]/\SqL K H a (ns.map V.int)/\Q (.int ns.sum) H
theorem Zj4 (hc:X.calm=true):Zdg X (.builtin "sum") (rSum X.K):=Zk9 hc
theorem Zlp {K:W.Frag} {H:Hp} {a:Addr} {ns:List Int} {Q:VK} (h:SqL K H a (ns.map V.int)) (q:Q (.int ns.sum) H):rSum K [.ref a] H Q:=⟨a,ns,rfl,h,q⟩
def rInt:List V->Hp->VK->Prop:=fun xs H Q=>(∃ i,xs=[.int i]/\Q (.int i) H)\/∃ k,xs=[.bl k]/\Q (.int (if k then 1 else 0)) H
theorem Zj8:Zdg X (.type "int") rInt:=Zj7
theorem Zhp {H:Hp} {k:Bool} {Q:VK} (q:Q (.int (if k then 1 else 0)) H):rInt [.bl k] H Q:=.inr ⟨k,rfl,q⟩
def ZdJ (K:W.Frag):List V->Hp->VK->Prop:=fun xs H Q=>∃ p ys,xs=[.ref p]/\((SqL K H p ys/\∀ l,H l=none->Q (.ref l) (upd H l (.tup ys)))\/(SqT K H p ys/\Q (.ref p) H))
theorem Zj3:Zdg X (.type "tuple") (ZdJ X.K):=Zf5
theorem Zjh {K:W.Frag} {H:Hp} {p:Addr} {ys:List V} {Q:VK} (h:SqL K H p ys) (q:∀ l,H l=none->Q (.ref l) (upd H l (.tup ys))):ZdJ K [.ref p] H Q:=⟨p,ys,rfl,.inl ⟨h,q⟩⟩
def Ze1 (K:W.Frag):List V->Hp->VK->Prop:=fun xs H Q=>∃ p ys,xs=[.ref p]/\(SqL K H p ys\/SqT K H p ys)/\∀ l,H l=none->Q (.ref l) (upd H l (.lst ys))
theorem Zj5:Zdg X (.type "list") (Ze1 X.K):=ZgU
theorem Zc7 {K:W.Frag} {H:Hp} {p:Addr} {ys:List V} {Q:VK} (h:SqL K H p ys\/SqT K H p ys) (q:∀ l,H l=none->Q (.ref l) (upd H l (.lst ys))):Ze1 K [.ref p] H Q:=⟨p,ys,rfl,h,q⟩
theorem Zcc {n:Nat} (h:Nat.ble n 1000=true):n<=sizeLine:=Zcv (Nat.le_of_ble_eq_true h)
end
section
variable {X:Cx} {K:W.Frag} {pos:Pos}
theorem k_ix (h:X.K=K):IxR X (rIxA K):=h▸ix_any
theorem ZdU (h:X.K=K):Zdg X (.builtin "len") (rLen K):=h▸Zj6
theorem k_sum (h:X.K=K) (hc:X.calm=true):Zdg X (.builtin "sum") (rSum K):=h▸Zj4 hc
theorem Zev (h:X.K=K):Zdg X (.type "tuple") (ZdJ K):=h▸Zj3
theorem ZdT (h:X.K=K):Zdg X (.type "list") (Ze1 K):=h▸Zj5
theorem k_sl (h:X.K=K):SlR X (rSlL K):=h▸ZlR
theorem Zmu (h:X.K=K) (hu:X.A.units+64 < cLine):OpR X (compareOp .Eq) (rEqL K):=h▸op_eqL hu
theorem k_neL (h:X.K=K) (hu:X.A.units+64 < cLine):OpR X (compareOp .NotEq) (rNeL K):=h▸Zlw hu
theorem k_in (h:X.K=K):OpR X (compareOp .In) (rIn K false):=h▸ZjC
theorem Zmt (h:X.K=K):OpR X (compareOp .NotIn) (rIn K true):=h▸ZgA
theorem Zdq {tg l:Expr} {tl:TE} (h:X.K=K) (hl:PE X l tl):PI X tg l (Zmz K tl):=h▸Zl9 hl
theorem ZcI {tg l:Expr} {tl:TE} (h:X.K=K) (hl:PE X l tl):PI X tg l (iTup K tl):=h▸pi_tup hl
theorem ZbQ {es:List Expr} {k:Nat} {t:TGs} {n:Nat} (h:X.K=K) (hc:X.calm=true) (hg:PGs X es t)
  (hn:(assignEach es X.env).length=n:=by rfl) (hst:(assignEach es X.env).findIdx? (·.1)=none:=by rfl):PG X (.Tuple es k pos) (gTup K n t):=h▸pg_tup hc hg hn hst
variable {o e:Expr} {es:List Expr} {to:TE} {t:TA} {name:Str} {apos cpos:Pos} {T id:String} {r:V->List V->Hp->VK->Prop}
theorem k_bm (h:X.K=K) (pa:PlainAttrs T) (slot:Slot T name id) (hty:typeOf (.builtin id)=pure (.type "method_descriptor")) (hm:MtR X id r) (ho:PE X o to) (ha:PA X (e::es) t)
  (hbase:attributeBase o name X.env (eval o X.env)=eval o X.env:=by rfl)
  (hfew:((backTo cpos (starEach (e::es) X.env)).all (fun x=>!x.1) && (backToKw cpos (keywordEach [] X.env)).all (fun x=>x.1.isSome)
   && decide ((e::es).length+([]:List Keyword).length+(if ([]:List Keyword).isEmpty then 0 else 1) < 30))=true:=by rfl)
  (hline:(apos.endLine == cpos.line)=true:=by rfl) (hs:starEach (e::es) X.env=(false,eval e X.env)::starEach es X.env:=by rfl) (hplain:(backTo cpos (starEach es X.env)).any (·.1)=false:=by rfl) :
  PE X (.Call (.Attribute o name apos) (e::es) [] cpos) (tBM K T r to t):=h▸pe_bm pa slot hty hm ho ha hbase hfew hline hs hplain
theorem Zmv (h:X.K=K) (pa:PlainAttrs T) (slot:Slot T name id) (hty:typeOf (.builtin id)=pure (.type "method_descriptor")) (hm:MtR X id r) (ho:PE X o to)
  (hbase:attributeBase o name X.env (eval o X.env)=eval o X.env:=by rfl) (hline:(apos.endLine == cpos.line)=true:=by rfl):PE X (.Call (.Attribute o name apos) [] [] cpos) (tBM0 K T r to):=h▸pe_bm0 pa slot hty hm ho hbase hline
end
structure TopFn (K:W.Frag) (mg:Str->Option Value) (x:Str) (st:Stmt) (ps:List Str):Prop where
 ex:∃ f fd,Fun K x x st f fd/\mg x=some (.ref f)/\Binds K fd ps []
section
variable {P:Program} {w:World} {K:W.Frag} {mg:Str->Option Value} {base:Heap} {x:Str} {st:Stmt} {ps N:List Str} {sp:Sp} {k:Nat}
theorem TopFn.callee (T:TopFn K mg x st ps) (h:∀ f fd,Fun K x x st f fd->FnOk P w K mg base CX0 k f fd ps sp):Callee P w K mg base x k ps sp:=by
 obtain ⟨f,fd,F,hm,hb⟩:=T.ex
 exact ⟨f,fd,h f fd F,hm,F.kp,hb⟩
def sp1 (b:V->Hp->VK->Prop):Sp:=fun vs H Q _=>∃ x,vs=[x]/\b x H Q
def sp2 (b:V->V->Hp->VK->Prop):Sp:=fun vs H Q _=>∃ x y,vs=[x,y]/\b x y H Q
def sp3 (b:V->V->V->Hp->VK->Prop):Sp:=fun vs H Q _=>∃ x y z,vs=[x,y,z]/\b x y z H Q
def sp4 (b:V->V->V->V->Hp->VK->Prop):Sp:=fun vs H Q _=>∃ x y z u,vs=[x,y,z,u]/\b x y z u H Q
def sp5 (b:V->V->V->V->V->Hp->VK->Prop):Sp:=fun vs H Q _=>∃ x y z u v,vs=[x,y,z,u,v]/\b x y z u v H Q
theorem use1 {b:V->Hp->VK->Prop} {x:V} {H:Hp} {Q:VK} {E:XK} (h:b x H Q):sp1 b [x] H Q E:=⟨x,rfl,h⟩
theorem use2 {b:V->V->Hp->VK->Prop} {x y:V} {H:Hp} {Q:VK} {E:XK} (h:b x y H Q):sp2 b [x,y] H Q E:=⟨x,y,rfl,h⟩
theorem use3 {b:V->V->V->Hp->VK->Prop} {x y z:V} {H:Hp} {Q:VK} {E:XK} (h:b x y z H Q):sp3 b [x,y,z] H Q E:=⟨x,y,z,rfl,h⟩
theorem use4 {b:V->V->V->V->Hp->VK->Prop} {x y z u:V} {H:Hp} {Q:VK} {E:XK} (h:b x y z u H Q):sp4 b [x,y,z,u] H Q E:=⟨x,y,z,u,rfl,h⟩
theorem use5 {b:V->V->V->V->V->Hp->VK->Prop} {x y z u v:V} {H:Hp} {Q:VK} {E:XK} (h:b x y z u v H Q):sp5 b [x,y,z,u,v] H Q E:=⟨x,y,z,u,v,rfl,h⟩
def ZeB (P:Program) (w:World) (K:W.Frag) (mg:Str->Option Value) (base:Heap) (N:List Str) (x:Str) (st:Stmt) (f:Addr) (cdv:Value) (A:Around) (outer:List Env) (s:Shared) (H:Hp) (vs:List V) (Q:VK) (E:XK):Prop :=
 ∃ t,PSs (cxOf CX0 P w K mg base N x (Zan st) f cdv A outer s H E).nox (Zbv st) t/\t { nx:=fun _ H'=>Q .non H',rt:=Q } (start N vs) H
theorem TopFn.ok1 {a1:Str} {b:V->Hp->VK->Prop} (T:TopFn K mg x st [a1]) (S:FnScope N [a1] (Zan st))
  (h:∀ (f:Addr) (cdv:Value) (A:Around) (outer:List Env) (s:Shared) (H:Hp) (v1:V) (Q:VK) (E:XK),Room k (A.deeper (envOfC x (Zan st) s.heap.objs.size f cdv))->b v1 H Q->ZeB P w K mg base N x st f cdv A outer s H [v1] Q E):Callee P w K mg base x (k+1) [a1] (sp1 b) :=
 T.callee fun f fd F=>F.ok S (fun vs H Q E ⟨_,e,_⟩=>by rw[e];rfl) fun cdv A outer s H vs Q E hr hsp=>by
  obtain ⟨v1,rfl,hb⟩:=hsp
  exact h f cdv A outer s H v1 Q E hr hb
theorem TopFn.ok2 {a1 a2:Str} {b:V->V->Hp->VK->Prop} (T:TopFn K mg x st [a1,a2]) (S:FnScope N [a1,a2] (Zan st))
  (h:∀ (f:Addr) (cdv:Value) (A:Around) (outer:List Env) (s:Shared) (H:Hp) (v1 v2:V) (Q:VK) (E:XK),Room k (A.deeper (envOfC x (Zan st) s.heap.objs.size f cdv))->b v1 v2 H Q->ZeB P w K mg base N x st f cdv A outer s H [v1,v2] Q E):Callee P w K mg base x (k+1) [a1,a2] (sp2 b) :=
 T.callee fun f fd F=>F.ok S (fun vs H Q E ⟨_,_,e,_⟩=>by rw[e];rfl) fun cdv A outer s H vs Q E hr hsp=>by
  obtain ⟨v1,v2,rfl,hb⟩:=hsp
  exact h f cdv A outer s H v1 v2 Q E hr hb
theorem TopFn.ok3 {a1 a2 a3:Str} {b:V->V->V->Hp->VK->Prop} (T:TopFn K mg x st [a1,a2,a3]) (S:FnScope N [a1,a2,a3] (Zan st))
  (h:∀ (f:Addr) (cdv:Value) (A:Around) (outer:List Env) (s:Shared) (H:Hp) (v1 v2 v3:V) (Q:VK) (E:XK),Room k (A.deeper (envOfC x (Zan st) s.heap.objs.size f cdv))->b v1 v2 v3 H Q->ZeB P w K mg base N x st f cdv A outer s H [v1,v2,v3] Q E):Callee P w K mg base x (k+1) [a1,a2,a3] (sp3 b) :=
 T.callee fun f fd F=>F.ok S (fun vs H Q E ⟨_,_,_,e,_⟩=>by rw[e];rfl) fun cdv A outer s H vs Q E hr hsp=>by
  obtain ⟨v1,v2,v3,rfl,hb⟩:=hsp
  exact h f cdv A outer s H v1 v2 v3 Q E hr hb
theorem TopFn.ok4 {a1 a2 a3 a4:Str} {b:V->V->V->V->Hp->VK->Prop} (T:TopFn K mg x st [a1,a2,a3,a4]) (S:FnScope N [a1,a2,a3,a4] (Zan st))
  (h:∀ (f:Addr) (cdv:Value) (A:Around) (outer:List Env) (s:Shared) (H:Hp) (v1 v2 v3 v4:V) (Q:VK) (E:XK),Room k (A.deeper (envOfC x (Zan st) s.heap.objs.size f cdv))->b v1 v2 v3 v4 H Q->ZeB P w K mg base N x st f cdv A outer s H [v1,v2,v3,v4] Q E):Callee P w K mg base x (k+1) [a1,a2,a3,a4] (sp4 b) :=
 T.callee fun f fd F=>F.ok S (fun vs H Q E ⟨_,_,_,_,e,_⟩=>by rw[e];rfl) fun cdv A outer s H vs Q E hr hsp=>by
  obtain ⟨v1,v2,v3,v4,rfl,hb⟩:=hsp
  exact h f cdv A outer s H v1 v2 v3 v4 Q E hr hb
theorem TopFn.ok5 {a1 a2 a3 a4 a5:Str} {b:V->V->V->V->V->Hp->VK->Prop} (T:TopFn K mg x st [a1,a2,a3,a4,a5]) (S:FnScope N [a1,a2,a3,a4,a5] (Zan st))
  (h:∀ (f:Addr) (cdv:Value) (A:Around) (outer:List Env) (s:Shared) (H:Hp) (v1 v2 v3 v4 v5:V) (Q:VK) (E:XK),Room k (A.deeper (envOfC x (Zan st) s.heap.objs.size f cdv))->b v1 v2 v3 v4 v5 H Q->ZeB P w K mg base N x st f cdv A outer s H [v1,v2,v3,v4,v5] Q E):Callee P w K mg base x (k+1) [a1,a2,a3,a4,a5] (sp5 b) :=
 T.callee fun f fd F=>F.ok S (fun vs H Q E ⟨_,_,_,_,_,e,_⟩=>by rw[e];rfl) fun cdv A outer s H vs Q E hr hsp=>by
  obtain ⟨v1,v2,v3,v4,v5,rfl,hb⟩:=hsp
  exact h f cdv A outer s H v1 v2 v3 v4 v5 Q E hr hb
theorem ZaB {f:Addr} {cdv:Value} {A:Around} {outer:List Env} {s:Shared} {H:Hp} {vs:List V} {Q:VK} {E:XK} {t:TS} (σ:St) (hσ:start N vs=σ) (h:PSs (cxOf CX0 P w K mg base N x (Zan st) f cdv A outer s H E).nox (Zbv st) t)
  (q:t { nx:=fun _ H'=>Q .non H',rt:=Q } σ H):ZeB P w K mg base N x st f cdv A outer s H vs Q E:=⟨t,h,by rw[hσ];exact q⟩
end
end L2
namespace L2
open PySem PySem.Spec PyProof.Rows
theorem Ze8 {b:Bool} {A B:Prop} (h:b=false) (q:B):if b=true then A else B:=by subst h;exact iteF q
theorem Zew {b:Bool} {A B:Prop} (h:b=true) (q:A):if b=true then A else B:=by subst h;exact iteT q
theorem Zao {c A B:Prop} [Decidable c] (h:¬ c) (q:B):if decide c=true then A else B:=by rw[decide_eq_false h];exact iteF q
theorem ZaJ {c A B:Prop} [Decidable c] (h:c) (q:A):if decide c=true then A else B:=by rw[decide_eq_true h];exact iteT q
theorem ite_ny {c A B:Prop} [Decidable c] (h:¬ c) (q:A):if (!decide c)=true then A else B:=by rw[decide_eq_false h];exact iteT q
theorem Zbr {c A B:Prop} [Decidable c] (h:c->A) (q:¬ c->B):if decide c=true then A else B:=by
 by_cases e:c
 ·exact ZaJ e (h e)
 ·exact Zao e (q e)
theorem ZeG {c A B:Prop} [Decidable c] (h:¬ c->A) (q:c->B):if (!decide c)=true then A else B:=by
 by_cases e:c
 ·exact iteNS e (q e)
 ·exact ite_ny e (h e)
def Zfi (p:Int×Int):D:=.tup [.int p.1,.int p.2]
def formD (c:Int) (ps:List (Int×Int)):D:=.tup [.int c,.tup (ps.map Zfi)]
def Zlj (c:Int) (ps:List (Int×Int)) (ws:List Int):Int:=c+(ps.map fun p=>p.1 * ws.getD p.2.toNat 0).sum
theorem SqL.mono {K:W.Frag} {H H':Hp} {a:Addr} {xs:List V} (s:Same H H') (h:SqL K H a xs):SqL K H' a xs:=s.seq h
end L2
namespace L2
theorem Za2 {n:Nat} (h:n<=1000000):n<=PySem.sizeLine:=Nat.le_trans h (by rw[PySem.sizeLine_eq];decide)
end L2
namespace L2
theorem Zmw {A B:Prop} (h:B):if (!true)=true then A else B:=iteF h
theorem Zmx {A B:Prop} (h:A):if (!false)=true then A else B:=iteT h
end L2
namespace L2
open PySem
theorem ZjZ (ns:List Int) (lo hi:Option Int):∃ ms:List Int,cutV (ns.map V.int) lo hi=ms.map V.int/\ms.length<=ns.length:=by
 refine ⟨(ns.drop (HT.sIx (ns.map V.int).length 0 lo)).take (HT.sIx (ns.map V.int).length (ns.map V.int).length hi - HT.sIx (ns.map V.int).length 0 lo),?_,?_⟩
 ·unfold cutV
  rw[map_take,map_drop]
 ·rw[length_take,length_drop]
  lia
theorem Zji {K:W.Frag} {H:Hp} {a:Addr} {xs:List V} {lo hi:Option Int} {Q:VK} (h:SqL K H a xs) (q:∀ p,H p=none->Q (.ref p) (upd H p (.lst (cutV xs lo hi)))):rSlL K (.ref a) lo hi H Q:=⟨a,xs,rfl,h,q⟩
theorem ZeE {H:Hp} {l b:Addr} {xs zs:List V} {Q:VK} (h1:H l=some (.lst xs)) (h2:H b=some (.lst zs)) (hl:xs.length+zs.length<=sizeLine) (q:∀ p,H p=none->Q (.ref p) (upd H p (.lst (xs++zs)))):rCat (.ref l) (.ref b) H Q:=⟨l,b,xs,zs,rfl,rfl,h1,h2,hl,q⟩
theorem Zih {ns:List Int} {i:Nat} {x:V} (h:(ns.map V.int)[i]?=some x):∃ z,x=.int z/\ns[i]?=some z:=by
 rw[getElem?_map] at h
 obtain ⟨z,e,rfl⟩:=Option.map_eq_some_iff.mp h
 exact ⟨z,rfl,e⟩
theorem ZlN {H:Hp} {a b:Addr} {o u:HO} (h:H b=some u) (hn:H a=none):upd H a o b=some u:=by rw[Zax (ZbV h hn)];exact h
def Zjc (K:W.Frag):Sp:=sp1 fun x H Q=>∃ (a:Addr) (ns:List Int),x=.ref a/\SqL K H a (ns.map V.int)/\ns.length<=63/\∀ H',Q (.bl true) H'
theorem Zkr {K:W.Frag} {H:Hp} {a:Addr} {ns:List Int} {E:XK} (hl:ns.length<=63) (hS:SqL K H a (ns.map V.int)):Zjc K [.ref a] H (fun v _=>v=.bl true) E:=⟨_,rfl,a,ns,rfl,hS,hl,fun _=>rfl⟩
theorem Fun.law {P:Program} {w:World} {K:W.Frag} {mg:Str->Option Value} {base:Heap} {st:Stmt} {f:Addr} {fd:FuncData} {N:List Str} {k:Nat} (F:Fun K "law" "law" st f fd) (S:FnScope N ["script"] (Zan st))
  (h:∀ (cdv:Value) (A:Around) (outer:List Env) (s:Shared) (H:Hp) (a:Addr) (ns:List Int) (Q:VK) (E:XK),Room k (A.deeper (PyProof.Rows.envOfC "law" (Zan st) s.heap.objs.size f cdv))->SqL K H a (ns.map V.int)->ns.length<=63->(∀ H',Q (.bl true) H') ->
   ZeB P w K mg base N "law" st f cdv A outer s H [.ref a] Q E):FnOk P w K mg base CX0 (k+1) f fd ["script"] (Zjc K) :=
 F.ok S (fun vs H Q E ⟨_,e,_⟩=>by rw[e];rfl) fun cdv A outer s H vs Q E hr hsp=>by
  obtain ⟨_,rfl,a,ns,rfl,h1,h2,h3⟩:=hsp
  exact h cdv A outer s H a ns Q E hr h1 h2 h3
end L2
namespace L2
theorem ten60:(10:Int) ^ (60:Int).toNat=1000000000000000000000000000000000000000000000000000000000000:=by decide +kernel
theorem ZlI:CPow 10 60:=⟨by decide,by decide,by decide⟩
theorem Zis {x:Int} (h:x.natAbs<=10 ^ 70):x.natAbs < 2 ^ 8000:=Nat.lt_of_le_of_lt h (by decide +kernel)
theorem Zj2 {x y:Int} (h:x.natAbs<=10 ^ 70) (h2:y.natAbs<=10 ^ 70):CBig x y:=⟨Zis h,Zis h2⟩
theorem Zip {x y:Int} (h:0 < y) (h2:y.natAbs<=10 ^ 70):Zko x y:=⟨h,Zis h2⟩
end L2
end
section
namespace L2
open PySem PySem.W PyProof.Rows
abbrev xs (n:String) (t:Tok):Value:=.str (Str.ofString n) t
abbrev xi (n:Int) (t:Tok):Value:=.int n t
abbrev xr (a:Addr):Value:=.ref a
abbrev xe (P:Params) (n:String) (t:Tok) (v:Value):DictEntry:=⟨PyData.keyHash P (Str.ofString n),.str (Str.ofString n) t,v⟩
abbrev oD (es:Array DictEntry) (n:Nat):Obj:={ cls:=.type "dict",data:=.dict es n }
abbrev oT (vs:Array Value):Obj:={ cls:=.type "tuple",data:=.seq vs }
abbrev oC (vs:Array Value):Obj:={ cls:=.type "code",data:=.fields vs }
abbrev oF (n q:Str) (st:Stmt) (m:String) (t:Tok) (c:Addr):Obj:={ cls:=.type "function",data:=.func (fnOf n q (ZbJ st) (Zbv st) (Zan st) .none .none .none (xs m t) none (xr c) .none) }
abbrev oG (n:Str) (st:Stmt) (m:String) (t:Tok) (c:Addr):Obj:=oF n n st m t c
abbrev xf (P:Params) (n:String) (t:Tok) (a:Addr):DictEntry:=xe P n t (xr a)
abbrev oK (n:String) (t l a r:Nat):Obj:=oC #[xs n t,xs n (t+1),xs "/claim/cut.py" (t+2),xi l 0,xi a 0,xi 0 0,xi 0 0,xi 3 0,xr r,.bool true,xi 181 0,xr (r+1),.none,.none,.none,xr (r+2),xi (t+3) 0,xi l 0,xs "/claim/cut.py" (t+4)]
theorem ZiF {p q:Program} {loose:List Str} {Xt:Shared->Bool} {α:Type} {Yf:Shared->α} {Ya:World->α} {N:Nat} (row:String)
  (e:opening p=plainProg p.main.scope.names) (hN:Nat.ble 600 N=true) (f:∀ s,fenceModules? p s=some s)
  (h:∀ (b:Bool) (w:World) (os:OsState),(topFrom treeTable p (w.withFollow row b) N ⟨boot_heap (w.withFollow row b).params,Array.mk [],boot_drawn,boot_toks,os⟩).map (fun s=>(openSeen q loose (importedModules p.main.body) Xt true s,Yf s))=some (openGood q loose,Ya (w.withFollow row b))) :
  LeftO p q loose Xt Yf Ya N:=fun w=>by
 have h':=byRow2 row (P:=fun w=>∀ os,(topFrom treeTable p w N ⟨boot_heap w.params,Array.mk [],boot_drawn,boot_toks,os⟩).map (fun s=>(openSeen q loose (importedModules p.main.body) Xt true s,Yf s))=some (openGood q loose,Ya w)) (fun w=>h false w) (fun w=>h true w) w
 obtain ⟨⟨hp,gs,d,k,os⟩,e1,e2⟩:=Option.map_eq_some_iff.mp (boot_open e hN f w)
 obtain ⟨rfl,rfl,rfl,rfl⟩:hp=boot_heap w.params/\gs=Array.mk []/\d=boot_drawn/\k=boot_toks:=by simpa using e2
 unfold openEnds
 rw[e1]
 exact h' os
theorem top_tw {p:Program} {w:World} {N:Nat} {s₀:Shared} {β:Type} {F:Shared->β} {r:β} {m:Nat} {ann:Option Value}
  (z1:(s₀.heap.isNs mainGlobals && s₀.gens.size == 0)=true) (z2:s₀.heap.objs.size=m) (z3:s₀.heap.nsMap mainGlobals "__annotations__"=ann)
  (h:((PySem.W.Fast.tw14082659384304107361 PySem.W.Fast.tw14364793385576792824 p w m ann N s₀ (topStub p)).bind fun s₁=>match staticsOk (importedModules p.main.body) s₀.heap s₁.heap && namesBound p s₁.heap && gensDone s₁ && laidKept s₀.heap s₁.heap with|true=>some s₁|false=>none).map F=some r) :
  (topFrom treeTable p w N s₀).map F=some r:=by
 unfold topFrom
 rw[z1,z2,z3,PySem.W.Fast.te14082659384304107361,PySem.W.Fast.te14364793385576792824]
 exact h
abbrev LB (row:String) (b:Bool) (p q:Program) (loose:List Str) (Xt:Shared->Bool) {α:Type} (Yf:Shared->α) (Ya:World->α) (N:Nat):Prop :=
 ∀ (w:World) (os:OsState),((PySem.W.Fast.tw14082659384304107361 PySem.W.Fast.tw14364793385576792824 p (w.withFollow row b) 11 (some (.ref 6)) N ⟨boot_heap (w.withFollow row b).params,Array.mk [],boot_drawn,boot_toks,os⟩ (topStub p)).bind fun s=>match staticsOk (importedModules p.main.body) (boot_heap (w.withFollow row b).params) s.heap && namesBound p s.heap && gensDone s && laidKept (boot_heap (w.withFollow row b).params) s.heap with|true=>some s|false=>none).map (fun s=>(PySem.W.Fast.tw4187177175401517315 q loose (importedModules p.main.body) Xt true s,Yf s))=some (openGood q loose,Ya (w.withFollow row b))
theorem ZjF {p q:Program} {loose:List Str} {Xt:Shared->Bool} {α:Type} {Yf:Shared->α} {Ya:World->α} {N:Nat} {row:String} (h0:LB row false p q loose Xt Yf Ya N) (h1:LB row true p q loose Xt Yf Ya N)
  (e:opening p=plainProg p.main.scope.names:=by kernel_rfl) (hN:Nat.ble 600 N=true:=by kernel_rfl) (f:∀ s,fenceModules? p s=some s:=by intro s;kernel_rfl):LeftO p q loose Xt Yf Ya N:=by
 refine ZiF row e hN f fun b w os=>?_
 refine top_tw (m:=11) (ann:=some (.ref 6)) (by kernel_rfl) (by kernel_rfl) (by kernel_rfl) ?_
 rw[PySem.W.Fast.te4187177175401517315]
 cases b
 ·exact h0 w os
 ·exact h1 w os
section
variable {K:Frag} {h:Heap} {mg:Str->Option Value} {x m qual:Str} {st:Stmt}
theorem gv {v:Value} (X:K.In h) (G:h.Ns mainGlobals mg) (e:nsIn K mainGlobals x=some (some v):=by kernel_rfl):mg x=some v:=mg_of X G e
theorem gz (X:K.In h) (G:h.Ns mainGlobals mg) (e:nsIn K mainGlobals x=some none:=by kernel_rfl):mg x=none:=mg_none_of X G e
theorem lo (a:Addr) (o:Obj) (e:K.lookup a=some o:=by kernel_rfl):K.lookup a=some o:=e
theorem tf1 {p1:Str} (X:K.In h) (G:h.Ns mainGlobals mg) (f:Addr) (md:String) (t:Tok) (c:Addr) (a:nsIn K mainGlobals x=some (some (.ref f)):=by kernel_rfl) (l:K.lookup f=some (oF x x st md t c):=by kernel_rfl) (cc:codeIn K (xr c) x=true:=by kernel_rfl) (k:keepIn K (.ref f)=true:=by kernel_rfl)
  (b:∀ (kV doc pm:Value) (an:Option Addr) (cdv ct:Value) (u1:Value),bindArgs (fnOf x x (ZbJ st) (Zbv st) (Zan st) .none kV doc pm an cdv ct) ⟨[u1],[]⟩=pure [(p1,u1)]:=by intros;kernel_rfl):TopFn K mg x st [p1] :=
 ⟨_,_,ZbF l cc k,mg_of X G a,(ZbF l cc k).binds fun _ _ _ _ _ _ us hl=>match us,hl with|[_],_=>b ..⟩
theorem tf2 {p1 p2:Str} (X:K.In h) (G:h.Ns mainGlobals mg) (f:Addr) (md:String) (t:Tok) (c:Addr) (a:nsIn K mainGlobals x=some (some (.ref f)):=by kernel_rfl) (l:K.lookup f=some (oF x x st md t c):=by kernel_rfl) (cc:codeIn K (xr c) x=true:=by kernel_rfl) (k:keepIn K (.ref f)=true:=by kernel_rfl)
  (b:∀ (kV doc pm:Value) (an:Option Addr) (cdv ct:Value) (u1 u2:Value),bindArgs (fnOf x x (ZbJ st) (Zbv st) (Zan st) .none kV doc pm an cdv ct) ⟨[u1,u2],[]⟩=pure [(p1,u1),(p2,u2)]:=by intros;kernel_rfl):TopFn K mg x st [p1,p2] :=
 ⟨_,_,ZbF l cc k,mg_of X G a,(ZbF l cc k).binds fun _ _ _ _ _ _ us hl=>match us,hl with|[_,_],_=>b ..⟩
theorem tf3 {p1 p2 p3:Str} (X:K.In h) (G:h.Ns mainGlobals mg) (f:Addr) (md:String) (t:Tok) (c:Addr) (a:nsIn K mainGlobals x=some (some (.ref f)):=by kernel_rfl) (l:K.lookup f=some (oF x x st md t c):=by kernel_rfl) (cc:codeIn K (xr c) x=true:=by kernel_rfl) (k:keepIn K (.ref f)=true:=by kernel_rfl)
  (b:∀ (kV doc pm:Value) (an:Option Addr) (cdv ct:Value) (u1 u2 u3:Value),bindArgs (fnOf x x (ZbJ st) (Zbv st) (Zan st) .none kV doc pm an cdv ct) ⟨[u1,u2,u3],[]⟩=pure [(p1,u1),(p2,u2),(p3,u3)]:=by intros;kernel_rfl):TopFn K mg x st [p1,p2,p3] :=
 ⟨_,_,ZbF l cc k,mg_of X G a,(ZbF l cc k).binds fun _ _ _ _ _ _ us hl=>match us,hl with|[_,_,_],_=>b ..⟩
theorem tf4 {p1 p2 p3 p4:Str} (X:K.In h) (G:h.Ns mainGlobals mg) (f:Addr) (md:String) (t:Tok) (c:Addr) (a:nsIn K mainGlobals x=some (some (.ref f)):=by kernel_rfl) (l:K.lookup f=some (oF x x st md t c):=by kernel_rfl) (cc:codeIn K (xr c) x=true:=by kernel_rfl) (k:keepIn K (.ref f)=true:=by kernel_rfl)
  (b:∀ (kV doc pm:Value) (an:Option Addr) (cdv ct:Value) (u1 u2 u3 u4:Value),bindArgs (fnOf x x (ZbJ st) (Zbv st) (Zan st) .none kV doc pm an cdv ct) ⟨[u1,u2,u3,u4],[]⟩=pure [(p1,u1),(p2,u2),(p3,u3),(p4,u4)]:=by intros;kernel_rfl):TopFn K mg x st [p1,p2,p3,p4] :=
 ⟨_,_,ZbF l cc k,mg_of X G a,(ZbF l cc k).binds fun _ _ _ _ _ _ us hl=>match us,hl with|[_,_,_,_],_=>b ..⟩
theorem tf5 {p1 p2 p3 p4 p5:Str} (X:K.In h) (G:h.Ns mainGlobals mg) (f:Addr) (md:String) (t:Tok) (c:Addr) (a:nsIn K mainGlobals x=some (some (.ref f)):=by kernel_rfl) (l:K.lookup f=some (oF x x st md t c):=by kernel_rfl) (cc:codeIn K (xr c) x=true:=by kernel_rfl) (k:keepIn K (.ref f)=true:=by kernel_rfl)
  (b:∀ (kV doc pm:Value) (an:Option Addr) (cdv ct:Value) (u1 u2 u3 u4 u5:Value),bindArgs (fnOf x x (ZbJ st) (Zbv st) (Zan st) .none kV doc pm an cdv ct) ⟨[u1,u2,u3,u4,u5],[]⟩=pure [(p1,u1),(p2,u2),(p3,u3),(p4,u4),(p5,u5)]:=by intros;kernel_rfl):TopFn K mg x st [p1,p2,p3,p4,p5] :=
 ⟨_,_,ZbF l cc k,mg_of X G a,(ZbF l cc k).binds fun _ _ _ _ _ _ us hl=>match us,hl with|[_,_,_,_,_],_=>b ..⟩
theorem tf6 {p1 p2 p3 p4 p5 p6:Str} (X:K.In h) (G:h.Ns mainGlobals mg) (f:Addr) (md:String) (t:Tok) (c:Addr) (a:nsIn K mainGlobals x=some (some (.ref f)):=by kernel_rfl) (l:K.lookup f=some (oF x x st md t c):=by kernel_rfl) (cc:codeIn K (xr c) x=true:=by kernel_rfl) (k:keepIn K (.ref f)=true:=by kernel_rfl)
  (b:∀ (kV doc pm:Value) (an:Option Addr) (cdv ct:Value) (u1 u2 u3 u4 u5 u6:Value),bindArgs (fnOf x x (ZbJ st) (Zbv st) (Zan st) .none kV doc pm an cdv ct) ⟨[u1,u2,u3,u4,u5,u6],[]⟩=pure [(p1,u1),(p2,u2),(p3,u3),(p4,u4),(p5,u5),(p6,u6)]:=by intros;kernel_rfl):TopFn K mg x st [p1,p2,p3,p4,p5,p6] :=
 ⟨_,_,ZbF l cc k,mg_of X G a,(ZbF l cc k).binds fun _ _ _ _ _ _ us hl=>match us,hl with|[_,_,_,_,_,_],_=>b ..⟩
end
end L2
end
section
namespace L2
open PySem
def bagL (l:Addr) (i m st c:Int):List V:=[.ref l,.int i,.int m,.int st,.int c]
structure BagAt (H:Hp) (b l:Addr):Prop where
 ex:∃ (xs:List Int) (i:Nat) (m st c:Int),H b=some (.lst (bagL l i m st c))/\H l=some (.lst (xs.map V.int))/\i<=xs.length/\(0<=m/\m<=10 ^ 60)/\(0<=st/\st < 2147483647)/\(∀ x∈xs,0<=x/\x<=10 ^ 60)/\xs.length<=63
def BSame (b:Addr) (H H':Hp):Prop:=∀ a o,a≠b->H a=some o->H' a=some o
theorem BSame.refl (b:Addr) (H:Hp):BSame b H H:=fun _ _ _ h=>h
theorem BSame.trans {b:Addr} {H H1 H2:Hp} (x:BSame b H H1) (y:BSame b H1 H2):BSame b H H2:=fun a o n h=>y a o n (x a o n h)
theorem BSame.of {b:Addr} {H H':Hp} (s:Same H H'):BSame b H H':=fun a o _ h=>s a o h
theorem BSame.wr {b:Addr} {H:Hp} {o:HO}:BSame b H (upd H b o):=fun a u n h=>by rw[Zax n];exact h
theorem BagAt.lst {H:Hp} {b l:Addr} (B:BagAt H b l):∃ xs,H b=some (.lst xs):=let ⟨_,_,_,_,_,h,_⟩:=B.ex;⟨_,h⟩
theorem BagAt.mono {H H':Hp} {b l:Addr} (B:BagAt H b l) (s:Same H H'):BagAt H' b l:=by
 obtain ⟨xs,i,m,st,c,h1,h2,r⟩:=B.ex
 exact ⟨xs,i,m,st,c,s _ _ h1,s _ _ h2,r⟩
theorem BSame.to {b:Addr} {H H1 H2:Hp} (x:BSame b H H1) (y:Same H1 H2):BSame b H H2:=x.trans (BSame.of y)
inductive drawB (x y:V) (H:Hp) (Q:VK):Prop
 | mk (b l n) (_:x=.ref b) (_:y=.int n) (_:0 < n/\n<=10 ^ 65) (_:BagAt H b l) (_:∀ r H',0<=r->r < n->BagAt H' b l->BSame b H H'->Q (.int r) H'):drawB x y H Q
def Zby:Sp:=sp2 drawB
inductive Pr_number (x:V) (H:Hp) (Q:VK):Prop
 | mk (b l) (_:x=.ref b) (_:BagAt H b l) (_:∀ r H',r.natAbs<=10 ^ 60->BagAt H' b l->BSame b H H'->Q (.int r) H'):Pr_number x H Q
def Zd6:Sp:=sp1 (Pr_number)
inductive Pr_bag (K:W.Frag) (x:V) (H:Hp) (Q:VK):Prop
 | mk (a:Addr) (ns:List Int) (_:x=.ref a) (_:SqL K H a (ns.map V.int)) (_:ns.length<=63) (_:∀ b l H',H b=none->Same H H'->BagAt H' b l->Q (.ref b) H'):Pr_bag K x H Q
def Zi9 (K:W.Frag):Sp:=sp1 (Pr_bag K)
theorem Zdk {H:Hp}:∀ (ns:List Int),Reps H (ns.map D.int) (ns.map V.int)
 | []=>ZaM
 | n::ns=>Zas ZaR (Zdk ns)
theorem ZfR:∀ (ns:List Int),D.pls (ns.map D.int)=true
 | []=>rfl
 | n::ns=>by rw[map_cons,D.pls,ZfR ns];rfl
theorem ZgR:∀ (ns:List Int),D.deps (ns.map D.int)=0
 | []=>rfl
 | n::ns=>by rw[map_cons,D.deps,ZgR ns];rfl
end L2
end
section
namespace L3
open PySem PyProof.Rows
class KOrd where
 kd:SortKind
 good:Keyed->Prop
 kv:Keyed->Int
abbrev oneType' [KOrd]:SortKind:=KOrd.kd
def IntK [KOrd] (x:Keyed):Prop:=KOrd.good x
def kvl [KOrd] (x:Keyed):Int:=KOrd.kv x
def K [KOrd] (xs:Array Keyed) (i:Nat):Int:=match xs[i]? with
 | some q=>kvl q
 | none=>0
class KLt [KOrd] (P:Program) (W:World) (A:Around) (E:Value->Shared->Prop) (z:Shared):Prop where
 lt:∀ {u:SortSt} {x y:Keyed} {Q:Option Bool->SortSt->Prop},kindOf u=oneType'->IntK x->IntK y->Q (some (decide (kvl x < kvl y))) u->wpS (model P W) A E z (lt' x y) Q u
section
variable [KOrd] {P:Program} {W:World} {A:Around} {E:Value->Shared->Prop} {z:Shared} [KLt P W A E z]
def bey (left:Bool) (kv:Int) (arr:Array Keyed) (base i:Nat):Bool:=if left then decide (K arr (base+i) < kv) else !decide (kv < K arr (base+i))
end
end L3
end
section
namespace L3
open PySem PyProof.Rows
variable [KOrd]
section
variable {P:Program} {W:World} {A:Around} {E:Value->Shared->Prop} {z:Shared} [KLt P W A E z]
structure Fr (u v:SortSt):Prop where
 kind:kindOf v=kindOf u
 arr:arrOf v=arrOf u
 pend:pendingOf v=pendingOf u
 failed:failedOf v=failedOf u
end
end L3
end
section
namespace L2
open PySem
theorem ZfQ {td ty tv:TE} {D':Ends} {σ:St} {H:Hp} (h:tv σ H fun v H1=>td σ H1 fun x H2=>ty σ H2 fun y H3=>∃ a H4,x=.ref a/\DPut H3 a y v H4/\D'.nx σ H4):sDPut td ty tv D' σ H:=h
theorem Zhs {td ty:TE} {σ:St} {H:Hp} {Q:VK} (h:td σ H fun x H1=>ty σ H1 fun y H2=>∃ a v,x=.ref a/\DGet H2 a y (some v)/\Q v H2):tDGet td ty σ H Q:=h
end L2
end
section
namespace L3
open PySem PyProof.Rows
section
variable {P:Program} {w:World} {A:Around} {E:Value->Shared->Prop} {s:Shared}
def dd (ns:List Int):List Int:=firstMet (fun i=>ns.getD i 0) ns.length
end
end L3
end
section
namespace L2
open PySem PySem.Spec PyProof.Rows
def rIsN:R2:=fun x y H Q=>y=.non/\Q (.bl (decide (x=.non))) H
def rNotN:R2:=fun x y H Q=>y=.non/\Q (.bl (!decide (x=.non))) H
theorem Zeu {X:Cx}:OpR X (compareOp .Is) rIsN:=op_isN
theorem Zh9 {X:Cx}:OpR X (compareOp .IsNot) rNotN:=Zmj
theorem Zjo {x:V} {H:Hp} {Q:VK} (q:Q (.bl (decide (x=.non))) H):rIsN x .non H Q:=⟨rfl,q⟩
theorem Zhl {x:V} {H:Hp} {Q:VK} (q:Q (.bl (!decide (x=.non))) H):rNotN x .non H Q:=⟨rfl,q⟩
theorem Zhg (n d k:Nat):HT.sIx n d (some (k:Int))=min k n:=by
 simp only[HT.sIx]
 rw[if_neg (by lia)]
 simp
theorem cut_to {xs:List V} {k:Nat} (h:k<=xs.length):cutV xs none (some (k:Int))=xs.take k:=by
 unfold cutV
 have e1:HT.sIx xs.length 0 none=0:=rfl
 have e2:HT.sIx xs.length xs.length (some (k:Int))=k:=by
  rw[Zhg]
  lia
 rw[e1,e2]
 simp
theorem Zk7 {xs:List V} {k:Nat} (h:k<=xs.length):cutV xs (some (k:Int)) none=xs.drop k:=by
 unfold cutV
 have e1:HT.sIx xs.length 0 (some (k:Int))=k:=by
  rw[Zhg]
  lia
 have e2:HT.sIx xs.length xs.length none=xs.length:=rfl
 rw[e1,e2]
 simp[take_of_length_le]
theorem Zl1 {K:W.Frag} {H:Hp} {a b:Addr} {ns ms:List Int} {Q:VK} (h1:SqL K H a (ns.map V.int)) (h2:SqL K H b (ms.map V.int)) (q:Q (.bl (decide (ns=ms))) H):rEqL K (.ref a) (.ref b) H Q:=by
 refine ⟨a,b,_,_,ns.map D.int,ms.map D.int,rfl,rfl,h1,h2,Zdk ns,Zdk ms,ZfR _,ZfR _,by rw[ZgR];lia,?_⟩
 have e:eqD (.tup (ns.map D.int)) (.tup (ms.map D.int))=decide (ns=ms):=by
  by_cases h:ns=ms
  ·subst h
   rw[Zb8]
   simp
  ·rw[Za0 ?_]
   ·simp[h]
   ·intro z
    injection z with z
    exact h (List.map_inj_right (fun x y e=>by injection e) |>.mp z)
 rw[e]
 exact q
def rowD (r:Str×List D):D:=.tup (.str r.1::r.2)
theorem ZlX {c:TT} {t u t2:TS} {D':Ends} {σ:St} {H:Hp} (I:St->Hp->Prop) (hI:∀ σ' H',I σ' H'->t2 D' σ' H') (h:∀ N:St->Hp->Prop,(∀ σ' H',I σ' H'->N σ' H')->tIfS c t u { D' with nx:=N } σ H):tSeq (tIfS c t u) t2 D' σ H :=
 h (t2 D') hI
structure MCal (P:Program) (w:World) (K:W.Frag) (mg:Str->Option Value) (base:Heap) (C:Addr) (m:Str) (k:Nat) (ps:List Str) (sp:Sp):Prop where
 ex:∃ f fd,FnOk P w K mg base CX0 k f fd ps sp/\Meth K C m f/\Binds K fd ps []
structure CCal (P:Program) (w:World) (K:W.Frag) (mg:Str->Option Value) (base:Heap) (C:Addr) (x:Str) (k:Nat) (ps:List Str) (sp:Sp):Prop where
 ex:∃ f fd,FnOk P w K mg base CX0 k f fd ps sp/\Mk K C f/\Binds K fd ps []/\mg x=some (.ref C)
section
variable {X:Cx} {C:Addr} {x m:Str} {k:Nat} {ps:List Str} {sp:Sp} {o e:Expr} {es:List Expr} {ta:TE} {t:TA} {apos pos p:Pos}
theorem pe_m {pl:Sem Bool} (M:MCal X.prog X.w X.K X.mg X.base C m k ps sp) (c:Cls X.K C) (hr:Room k X.A) (ho:PE X o ta) (ha:PA X (e::es) t)
  (hst:starEach (e::es) X.env=(false,eval e X.env)::starEach es X.env:=by rfl) (hpl:(backTo pos (starEach es X.env)).any (·.1)=false:=by rfl)
  (ht:eval (.Call (.Attribute o m apos) (e::es) [] pos) X.env=(do
   let ov <- eval o X.env;standAt apos.atName
   let (f,first) <- holding [ov] (getMethod ov m pl)
   callWith pos f first (backTo pos (starEach (e::es) X.env)) (backToKw pos (keywordEach [] X.env))):=by rfl) :
  PE X (.Call (.Attribute o m apos) (e::es) [] pos) (Zi3 C m sp [] E0 ta t):=by
 obtain ⟨f,fd,F,hm,hb⟩:=M.ex
 exact Zmb (pl:=pl) ho c hm F hr hb .nil ZkG ha hst hpl ht
theorem Zmd {pl:Sem Bool} (M:MCal X.prog X.w X.K X.mg X.base C m k ps sp) (c:Cls X.K C) (hr:Room k X.A) (ho:PE X o ta)
  (ht:eval (.Call (.Attribute o m apos) [] [] pos) X.env=(do
   let ov <- eval o X.env;standAt apos.atName
   let (f,first) <- holding [ov] (getMethod ov m pl)
   callWith pos f first (backTo pos (starEach [] X.env)) (backToKw pos (keywordEach [] X.env))):=by rfl) :
  PE X (.Call (.Attribute o m apos) [] [] pos) (Zi3 C m sp [] E0 ta tNil):=by
 obtain ⟨f,fd,F,hm,hb⟩:=M.ex
 exact ZkD (pl:=pl) ho c hm F hr hb .nil ZkG ht
theorem Zlv (M:CCal X.prog X.w X.K X.mg X.base C x k ps sp) (hr:Room (k+1) X.A) (hg:Gl X x) (ha:PA X (e::es) t) (hdb:(x == ("__debug__":Str))=false:=by decide)
  (he:starEach (e::es) X.env=(false,eval e X.env)::starEach es X.env:=by rfl) (hpl:(backTo pos (starEach es X.env)).any (·.1)=false:=by rfl) :
  PE X (.Call (.Name x p) (e::es) [] pos) (ZlO C sp [] E0 t):=by
 obtain ⟨f,fd,F,hM,hb,hm⟩:=M.ex
 exact Zmc hM F hr hg hm hb .nil ZkG ha hdb he hpl
theorem Zbj {K:W.Frag} {f:Str} (h:X.K=K) (he:PE X e ta) (hb:attributeBase e f X.env (eval e X.env)=eval e X.env):PE X (.Attribute e f pos) (tFld K ta f):=h▸pe_fld he hb
theorem ZcU {K:W.Frag} {f:Str} {value:Expr} {tv:TE} {pos':Pos} (h:X.K=K) (ha:PE X o ta) (hv:PE X value tv) (hs:swapsWith value (some (.Attribute o f pos')) pos.line X.env=pure false):PS X (.Assign [.Attribute o f pos'] value pos) (sFld K ta tv f):=h▸ps_fld ha hv hs
theorem Zjy {n:Int} (hg:Gl X x) (h:∃ t,X.mg x=some (.int n t)) (hd:(x == ("__debug__":Str))=false:=by decide):PE X (.Name x pos) (tC (.int n)):=by
 obtain ⟨t,h⟩:=h
 exact Zhy hg h ⟨t,rfl⟩ hd
def tCT (K:W.Frag) (xs:List V):TE:=fun _ H Q=>∀ a,(∀ H',SqT K H' a xs)->Q (.ref a) H
def IsCT (K:W.Frag) (mg:Str->Option Value) (x:Str) (xs:List V):Prop:=∃ a,mg x=some (.ref a)/\∃ (o:Obj) (its:Array Value) (n:Nat),K.lookup a=some o/\o.cls=.type "tuple"/\o.data=.seq its n/\its.size<=sizeLine/\Vals xs its.toList
theorem Zmf {K:W.Frag} {xs:List V} (hg:Gl X x) (h:IsCT K X.mg x xs) (hd:(x == ("__debug__":Str))=false:=by decide):PE X (.Name x pos) (tCT K xs):=by
 obtain ⟨a,h,r⟩:=h
 intro pins s σ H Q I q
 exact Zhy (v:=.ref a) hg h rfl hd pins s σ H Q I (q a fun H'=>.inr r)
end
structure TopM (K:W.Frag) (C:Addr) (m qual:Str) (st:Stmt) (ps:List Str):Prop where
 ex:∃ f fd,Fun K m qual st f fd/\Meth K C m f/\Binds K fd ps []
structure TopI (K:W.Frag) (mg:Str->Option Value) (C:Addr) (x qual:Str) (st:Stmt) (ps:List Str):Prop where
 ex:∃ f fd,Fun K "__init__" qual st f fd/\Mk K C f/\Binds K fd ps []/\mg x=some (.ref C)
section
variable {P:Program} {w:World} {K:W.Frag} {mg:Str->Option Value} {base:Heap} {x m qual:Str} {st:Stmt} {ps N:List Str} {sp:Sp} {k:Nat} {C:Addr}
theorem TopM.cal (T:TopM K C m qual st ps) (h:∀ f fd,Fun K m qual st f fd->FnOk P w K mg base CX0 k f fd ps sp):MCal P w K mg base C m k ps sp:=by
 obtain ⟨f,fd,F,hm,hb⟩:=T.ex
 exact ⟨f,fd,h f fd F,hm,hb⟩
theorem TopM.ok1 {a1:Str} {b:V->Hp->VK->Prop} (T:TopM K C m qual st [a1]) (S:FnScope N [a1] (Zan st))
  (h:∀ (f:Addr) (cdv:Value) (A:Around) (outer:List Env) (s:Shared) (H:Hp) (v1:V) (Q:VK) (E:XK),Room k (A.deeper (envOfC qual (Zan st) s.heap.objs.size f cdv))->b v1 H Q->ZeB P w K mg base N qual st f cdv A outer s H [v1] Q E):MCal P w K mg base C m (k+1) [a1] (sp1 b) :=
 T.cal fun f fd F=>F.ok S (fun vs H Q E ⟨_,e,_⟩=>by rw[e];rfl) fun cdv A outer s H vs Q E hr hsp=>by
  obtain ⟨v1,rfl,hb⟩:=hsp
  exact h f cdv A outer s H v1 Q E hr hb
theorem TopM.ok2 {a1 a2:Str} {b:V->V->Hp->VK->Prop} (T:TopM K C m qual st [a1,a2]) (S:FnScope N [a1,a2] (Zan st))
  (h:∀ (f:Addr) (cdv:Value) (A:Around) (outer:List Env) (s:Shared) (H:Hp) (v1 v2:V) (Q:VK) (E:XK),Room k (A.deeper (envOfC qual (Zan st) s.heap.objs.size f cdv))->b v1 v2 H Q->ZeB P w K mg base N qual st f cdv A outer s H [v1,v2] Q E):MCal P w K mg base C m (k+1) [a1,a2] (sp2 b) :=
 T.cal fun f fd F=>F.ok S (fun vs H Q E ⟨_,_,e,_⟩=>by rw[e];rfl) fun cdv A outer s H vs Q E hr hsp=>by
  obtain ⟨v1,v2,rfl,hb⟩:=hsp
  exact h f cdv A outer s H v1 v2 Q E hr hb
theorem TopM.ok3 {a1 a2 a3:Str} {b:V->V->V->Hp->VK->Prop} (T:TopM K C m qual st [a1,a2,a3]) (S:FnScope N [a1,a2,a3] (Zan st))
  (h:∀ (f:Addr) (cdv:Value) (A:Around) (outer:List Env) (s:Shared) (H:Hp) (v1 v2 v3:V) (Q:VK) (E:XK),Room k (A.deeper (envOfC qual (Zan st) s.heap.objs.size f cdv))->b v1 v2 v3 H Q->ZeB P w K mg base N qual st f cdv A outer s H [v1,v2,v3] Q E):MCal P w K mg base C m (k+1) [a1,a2,a3] (sp3 b) :=
 T.cal fun f fd F=>F.ok S (fun vs H Q E ⟨_,_,_,e,_⟩=>by rw[e];rfl) fun cdv A outer s H vs Q E hr hsp=>by
  obtain ⟨v1,v2,v3,rfl,hb⟩:=hsp
  exact h f cdv A outer s H v1 v2 v3 Q E hr hb
theorem TopI.ok3 {a1 a2 a3:Str} {b:V->V->V->Hp->VK->Prop} (T:TopI K mg C x qual st [a1,a2,a3]) (S:FnScope N [a1,a2,a3] (Zan st))
  (h:∀ (f:Addr) (cdv:Value) (A:Around) (outer:List Env) (s:Shared) (H:Hp) (v1 v2 v3:V) (Q:VK) (E:XK),Room k (A.deeper (envOfC qual (Zan st) s.heap.objs.size f cdv))->b v1 v2 v3 H Q->ZeB P w K mg base N qual st f cdv A outer s H [v1,v2,v3] Q E):CCal P w K mg base C x (k+1) [a1,a2,a3] (sp3 b):=by
 obtain ⟨f,fd,F,hm,hb,hx⟩:=T.ex
 refine ⟨f,fd,F.ok S (fun vs H Q E ⟨_,_,_,e,_⟩=>by rw[e];rfl) (fun cdv A outer s H vs Q E hr hsp=>?_),hm,hb,hx⟩
 obtain ⟨v1,v2,v3,rfl,hb⟩:=hsp
 exact h f cdv A outer s H v1 v2 v3 Q E hr hb
end
section
variable {σ:St} {H:Hp} {Q:VK} {K:W.Frag} {ta tv:TE} {f m:Str} {C a dx:Addr} {fs:List (Str×V)} {v:V}
def fldK (K:W.Frag) (f:Str) (Q:VK) (x:V) (H1:Hp):Prop:=∃ a C dx fs v,x=.ref a/\H1 a=some (.ins C dx fs)/\Cls K C/\NoAttr K C f/\fs.lookup f=some v/\Q v H1
theorem Zjs (h:ta σ H (fldK K f Q)):tFld K ta f σ H Q:=h
theorem ZaU (e:H a=some (.ins C dx fs)) (c:Cls K C) (n:NoAttr K C f) (l:fs.lookup f=some v) (q:Q v H):fldK K f Q (.ref a) H:=⟨a,C,dx,fs,v,rfl,e,c,n,l,q⟩
def sfldK (K:W.Frag) (f:Str) (D:Ends) (σ:St) (y x:V) (H2:Hp):Prop:=∃ a C dx fs,x=.ref a/\H2 a=some (.ins C dx fs)/\Cls K C/\NoAttr K C f/\fs.length < 1000/\D.nx σ (upd H2 a (.ins C dx (putF f y fs)))
theorem Zhi {D:Ends} (h:tv σ H fun y H1=>ta σ H1 fun x H2=>sfldK K f D σ y x H2):sFld K ta tv f D σ H:=h
theorem Zb3 {D:Ends} {y:V} (e:H a=some (.ins C dx fs)) (c:Cls K C) (n:NoAttr K C f) (l:fs.length < 1000) (q:D.nx σ (upd H a (.ins C dx (putF f y fs)))):sfldK K f D σ y (.ref a) H:=⟨a,C,dx,fs,rfl,e,c,n,l,q⟩
def methK (C:Addr) (m:Str) (sp:Sp) (t:TA) (σ:St) (Q:VK) (x:V) (H1:Hp):Prop:=∃ a dx fs,x=.ref a/\H1 a=some (.ins C dx fs)/\fs.lookup m=none/\t σ H1 fun vs H2=>sp (x::(vs++[])) H2 Q E0
theorem Zhm {sp:Sp} {t:TA} (h:ta σ H (methK C m sp t σ Q)):Zi3 C m sp [] E0 ta t σ H Q:=h
theorem ZdS {sp:Sp} {t:TA} (e:H a=some (.ins C dx fs)) (l:fs.lookup m=none) (q:t σ H fun vs H2=>sp (.ref a::(vs++[])) H2 Q E0):methK C m sp t σ Q (.ref a) H:=⟨a,dx,fs,rfl,e,l,q⟩
theorem Zjm {sp:Sp} {t:TA} (h:t σ H fun vs H1=>∀ x dx,H1 x=none->H1 dx=none->dx≠x->sp (.ref x::(vs++[])) (upd (upd H1 dx (.own x)) x (.ins C dx [])) (fun v H2=>v=.non/\Q (.ref x) H2) E0):ZlO C sp [] E0 t σ H Q:=h
theorem rd_ct {xs:List V} (h:∀ a,(∀ H',SqT K H' a xs)->Q (.ref a) H):tCT K xs σ H Q:=h
end
end L2
end
section
namespace L2
open PySem PySem.W PyProof.Rows
section
variable {K:Frag} {h:Heap} {mg:Str->Option Value} {x m qual:Str} {st:Stmt} {C:Addr}
theorem na {f:Str} (e:findIn K (.ref C) f=some none:=by kernel_rfl):NoAttr K C f:=e
theorem nc (a:plainGet K C Str.empty=true:=by kernel_rfl) (b:hasDictIn K C=true:=by kernel_rfl) (c:plainOver K C=true:=by kernel_rfl) (d:findIn K (.ref C) "__setattr__"=some (some (.builtin "object.__setattr__")):=by kernel_rfl):Cls K C:=⟨a,b,c,d⟩
theorem tm1 {p1:Str} (f:Addr) (md:String) (t:Tok) (c:Addr) (a:findIn K (.ref C) m=some (some (.ref f)):=by kernel_rfl) (i:isFn K (.ref f)=true:=by kernel_rfl) (l:K.lookup f=some (oF m qual st md t c):=by kernel_rfl) (cc:codeIn K (xr c) qual=true:=by kernel_rfl) (k:keepIn K (.ref f)=true:=by kernel_rfl)
  (b:∀ (kV doc pm:Value) (an:Option Addr) (cdv ct:Value) (u1:Value),bindArgs (fnOf m qual (ZbJ st) (Zbv st) (Zan st) .none kV doc pm an cdv ct) ⟨[u1],[]⟩=pure [(p1,u1)]:=by intros;kernel_rfl):TopM K C m qual st [p1] :=
 ⟨_,_,ZbF l cc k,⟨a,i,k⟩,(ZbF l cc k).binds fun _ _ _ _ _ _ us hl=>match us,hl with|[_],_=>b ..⟩
theorem tm2 {p1 p2:Str} (f:Addr) (md:String) (t:Tok) (c:Addr) (a:findIn K (.ref C) m=some (some (.ref f)):=by kernel_rfl) (i:isFn K (.ref f)=true:=by kernel_rfl) (l:K.lookup f=some (oF m qual st md t c):=by kernel_rfl) (cc:codeIn K (xr c) qual=true:=by kernel_rfl) (k:keepIn K (.ref f)=true:=by kernel_rfl)
  (b:∀ (kV doc pm:Value) (an:Option Addr) (cdv ct:Value) (u1 u2:Value),bindArgs (fnOf m qual (ZbJ st) (Zbv st) (Zan st) .none kV doc pm an cdv ct) ⟨[u1,u2],[]⟩=pure [(p1,u1),(p2,u2)]:=by intros;kernel_rfl):TopM K C m qual st [p1,p2] :=
 ⟨_,_,ZbF l cc k,⟨a,i,k⟩,(ZbF l cc k).binds fun _ _ _ _ _ _ us hl=>match us,hl with|[_,_],_=>b ..⟩
theorem ti2 {p1 p2:Str} (X:K.In h) (G:h.Ns mainGlobals mg) (f:Addr) (md:String) (t:Tok) (c:Addr) (a:findIn K (.ref C) "__init__"=some (some (.ref f)):=by kernel_rfl) (i:isFn K (.ref f)=true:=by kernel_rfl) (l:K.lookup f=some (oF "__init__" qual st md t c):=by kernel_rfl) (cc:codeIn K (xr c) qual=true:=by kernel_rfl) (k:keepIn K (.ref f)=true:=by kernel_rfl) (mk:makesIn K C=true:=by kernel_rfl) (kc:keepIn K (.ref C)=true:=by kernel_rfl) (aC:nsIn K mainGlobals x=some (some (.ref C)):=by kernel_rfl)
  (b:∀ (kV doc pm:Value) (an:Option Addr) (cdv ct:Value) (u1 u2:Value),bindArgs (fnOf "__init__" qual (ZbJ st) (Zbv st) (Zan st) .none kV doc pm an cdv ct) ⟨[u1,u2],[]⟩=pure [(p1,u1),(p2,u2)]:=by intros;kernel_rfl):TopI K mg C x qual st [p1,p2] :=
 ⟨_,_,ZbF l cc k,⟨mk,a,i,kc⟩,(ZbF l cc k).binds fun _ _ _ _ _ _ us hl=>match us,hl with|[_,_],_=>b ..,mg_of X G aC⟩
theorem tm3 {p1 p2 p3:Str} (f:Addr) (md:String) (t:Tok) (c:Addr) (a:findIn K (.ref C) m=some (some (.ref f)):=by kernel_rfl) (i:isFn K (.ref f)=true:=by kernel_rfl) (l:K.lookup f=some (oF m qual st md t c):=by kernel_rfl) (cc:codeIn K (xr c) qual=true:=by kernel_rfl) (k:keepIn K (.ref f)=true:=by kernel_rfl)
  (b:∀ (kV doc pm:Value) (an:Option Addr) (cdv ct:Value) (u1 u2 u3:Value),bindArgs (fnOf m qual (ZbJ st) (Zbv st) (Zan st) .none kV doc pm an cdv ct) ⟨[u1,u2,u3],[]⟩=pure [(p1,u1),(p2,u2),(p3,u3)]:=by intros;kernel_rfl):TopM K C m qual st [p1,p2,p3] :=
 ⟨_,_,ZbF l cc k,⟨a,i,k⟩,(ZbF l cc k).binds fun _ _ _ _ _ _ us hl=>match us,hl with|[_,_,_],_=>b ..⟩
theorem ti3 {p1 p2 p3:Str} (X:K.In h) (G:h.Ns mainGlobals mg) (f:Addr) (md:String) (t:Tok) (c:Addr) (a:findIn K (.ref C) "__init__"=some (some (.ref f)):=by kernel_rfl) (i:isFn K (.ref f)=true:=by kernel_rfl) (l:K.lookup f=some (oF "__init__" qual st md t c):=by kernel_rfl) (cc:codeIn K (xr c) qual=true:=by kernel_rfl) (k:keepIn K (.ref f)=true:=by kernel_rfl) (mk:makesIn K C=true:=by kernel_rfl) (kc:keepIn K (.ref C)=true:=by kernel_rfl) (aC:nsIn K mainGlobals x=some (some (.ref C)):=by kernel_rfl)
  (b:∀ (kV doc pm:Value) (an:Option Addr) (cdv ct:Value) (u1 u2 u3:Value),bindArgs (fnOf "__init__" qual (ZbJ st) (Zbv st) (Zan st) .none kV doc pm an cdv ct) ⟨[u1,u2,u3],[]⟩=pure [(p1,u1),(p2,u2),(p3,u3)]:=by intros;kernel_rfl):TopI K mg C x qual st [p1,p2,p3] :=
 ⟨_,_,ZbF l cc k,⟨mk,a,i,kc⟩,(ZbF l cc k).binds fun _ _ _ _ _ _ us hl=>match us,hl with|[_,_,_],_=>b ..,mg_of X G aC⟩
end
end L2
end
section
namespace L2
inductive Ex2 {α0 α1:Type} (p:α0->α1->Prop):Prop
 | mk (a:α0) (b:α1) (h:p a b):Ex2 p
inductive Ex3 {α0 α1 α2:Type} (p:α0->α1->α2->Prop):Prop
 | mk (a:α0) (b:α1) (c:α2) (h:p a b c):Ex3 p
inductive Ex8 {α0 α1 α2 α3 α4 α5 α6 α7:Type} (p:α0->α1->α2->α3->α4->α5->α6->α7->Prop):Prop
 | mk (a:α0) (b:α1) (c:α2) (d:α3) (e:α4) (f:α5) (g:α6) (h:α7) (h:p a b c d e f g h):Ex8 p
inductive An3 (a b c:Prop):Prop
 | mk (h0:a) (h1:b) (h2:c):An3 a b c
inductive An4 (a b c d:Prop):Prop
 | mk (h0:a) (h1:b) (h2:c) (h3:d):An4 a b c d
inductive An5 (a b c d e:Prop):Prop
 | mk (h0:a) (h1:b) (h2:c) (h3:d) (h4:e):An5 a b c d e
inductive An6 (a b c d e f:Prop):Prop
 | mk (h0:a) (h1:b) (h2:c) (h3:d) (h4:e) (h5:f):An6 a b c d e f
inductive An7 (a b c d e f g:Prop):Prop
 | mk (h0:a) (h1:b) (h2:c) (h3:d) (h4:e) (h5:f) (h6:g):An7 a b c d e f g
inductive An11 (a b c d e f g h i j k:Prop):Prop
 | mk (h0:a) (h1:b) (h2:c) (h3:d) (h4:e) (h5:f) (h6:g) (h7:h) (h8:i) (h9:j) (h10:k):An11 a b c d e f g h i j k
end L2
end
section
namespace L2
open PySem PySem.Spec PyProof.Rows
section
variable {X:Cx} {pins:List (Addr×Obj)} {σ:St} {H:Hp} {s:Shared} {h':Heap}
theorem Inv.turnedL {t':Nat} {fp:List Addr} (I:Inv X pins σ H s) (k:∀ b o,b∉fp->s.heap.get? b=some o->h'.get? b=some o) (hf:∀ b∈fp,FpOk X pins H b):Inv X pins σ H { s with heap:=h',toks:=t' }:=by
 have nit:∀ b u,H b=some u->b∉fp:=fun b u e z=>by rw[(hf b z).1] at e;cases e
 refine I.step (g':=s.gens) (d':=s.drawn) (ch:=fp) (fun b hb=>?_) (fun b o _ _ hc e _=>k b o hc e) (fun b o _ _ hc e _=>⟨o.slots,k b o hc e⟩) (fun _ _ _ _ n=>n)
  (fun b o hc e=>⟨o,k b o hc e⟩) (fun _ _ e=>e) (fun _ _ _ e=>e) (fun b ps e=>⟨#[],by rw[e];simp⟩) (fun m hm=>?_) (fun b u e=>?_) I.bare
 ·obtain ⟨f0,f1,f2,f3,f4,f5⟩:=hf b hb
  exact ⟨f3,f1,f4,f5⟩
 ·obtain ⟨o,es,ep,ho,r⟩:=hm
  exact ⟨o,es,ep,k _ o (fun z=>(hf _ z).2.1 rfl) ho,r⟩
 ·refine (I.hok b u e).stay (fun c v hc q=>k c v ?_ q) (fun _ q=>q) fun _ _ q=>q
  rcases hc with z|z
  ·rw[z];exact nit b u e
  ·exact nit c _ z
theorem ZkW {h:Heap} {o u:Obj} {b:Addr} (ho:o.isFreed=false) (e:(h.push o).get? b=some u):h.get? b=some u\/(b=h.objs.size/\u=o):=by
 have hb:=Heap.lt_size e
 rw[Heap.size_push] at hb
 by_cases hbe:b=h.objs.size
 ·subst hbe
  rw[Heap.get?_push_size h ho] at e
  exact .inr ⟨rfl,(Option.some.inj e).symm⟩
 ·have hlt:b < h.objs.size:=Nat.lt_of_le_of_ne (Nat.le_of_lt_succ hb) hbe
  left
  rw[<-e]
  unfold Heap.get? Heap.push
  simp[Array.getElem?_push_lt,hlt,Array.getElem?_eq_getElem hlt]
end
def Ite (K:W.Frag) (l:Addr):It:=⟨fun i H=>∃ xs x,SqL K H l xs/\xs[i]?=some x,
 fun i H v H'=>∃ T x,(∀ xs,SqL K H l xs->xs[i]?=some x)/\H T=none/\v=.ref T/\H'=upd H T (.tup [.int i,x]),
 fun i H=>∃ xs,SqL K H l xs/\xs.length<=i⟩
theorem Zi1 {P:Program} {w:World} {K:W.Frag} {elts:List Expr} {x1} {pos:Pos} {e it l:Addr} (nei:e≠it) :
  Turn P w K (.Tuple elts x1 pos) (Ite K l) [e,it] e (fun i h=>(∃ old,IsEnum h e it i old)/\h.IsListIter it l i) where
 mem:=by simp
 obj:=fun i h st b hb=>by
  obtain ⟨⟨old,a1⟩,⟨o1,e1,c1,d1⟩⟩:=st
  simp only[mem_cons,not_mem_nil,or_false] at hb
  rcases hb with rfl|rfl
  ·exact ⟨_,a1,fun v z=>by cases z⟩
  ·exact ⟨_,e1,fun v z=>by rw[d1] at z;cases z⟩
 keep:=fun i h h' st k=>by
  obtain ⟨⟨old,a1⟩,a4⟩:=st
  exact ⟨⟨old,k e (by simp) _ a1⟩,a4.at fun o q=>k it (by simp) o q⟩
 item:=by
  intro X hP hw hK hc i pins s σ H E I hf st hg
  subst hP hw hK
  obtain ⟨xs,x,hq1,hx⟩:=hg
  obtain ⟨its1,rv1,p1,hz1⟩:=I.list hq1
  obtain ⟨u1,hu1,ru1⟩:=rv1.get hx
  obtain ⟨⟨old,a1⟩,a4⟩:=st
  refine wpAny_pyNext_enum_item a1 a4 p1.isList (x:=u1) (by simpa using hu1) nei fun h' b1 b2 b3 b4 b5=>?_
  refine ⟨_,rfl,wpAny_letOwnedTupleGo_enum (s:={ s with heap:=h',toks:=s.toks+1 }) b1 fun h2 c1 c2=>?_⟩
  have hT:H s.heap.objs.size=none:=I.hok.fresh (Nat.le_refl _)
  have I1:Inv X pins σ (upd H s.heap.objs.size (.tup [.int i,x])) { s with heap:=s.heap.push { cls:=.type "tuple",data:=.seq #[.int i s.toks,u1] },toks:=s.toks } :=
   I.laid (t':=s.toks) (fun b u e=>Heap.get?_push_of_some _ e) (Nat.le_refl _) ⟨by show 2<=sizeLine;decide,[.int i s.toks,u1],.cons ⟨_,rfl⟩ (.cons ru1 .nil),⟨_,Heap.get?_push_size _ rfl,rfl,_,rfl⟩⟩
  have lt:∀ {c o},s.heap.get? c=some o->c≠s.heap.objs.size:=fun e=>Nat.ne_of_lt (Heap.lt_size e)
  have ne:∀ b∈[e,it],b≠s.heap.objs.size:=fun b hb=>by
   obtain ⟨o1,e1,_⟩:=a4
   simp only[mem_cons,not_mem_nil,or_false] at hb
   rcases hb with rfl|rfl
   ·exact lt a1
   ·exact lt e1
  have f1:∀ b∈[e,it],upd H s.heap.objs.size (.tup [.int i,x]) b=none:=fun b hb=>by rw[Zax (ne b hb)];exact (hf b hb).1
  have hTe:s.heap.objs.size≠e:=(ne e (by simp)).symm
  have I2:=I1.turnedL (h':=h2) (t':=s.toks+1) (fp:=[e,it]) (fun b o hb q=>by
   simp only[mem_cons,not_mem_nil,or_false,not_or] at hb
   obtain ⟨n1,n2⟩:=hb
   rcases ZkW rfl q with q|⟨rfl,rfl⟩
   ·exact c2.extBut _ _ n1 (b5 b o n1 n2 q)
   ·exact c2.extBut _ _ hTe b3) fun b hb=>⟨f1 b hb,(hf b hb).2⟩
  refine ⟨.ref s.heap.objs.size,_,I2,rfl,⟨_,x,fun xs' h=>by rw[I.list_inj h hq1];exact hx,hT,rfl,rfl⟩,?_,f1⟩
  exact ⟨⟨_,c1⟩,b2.extBut c2.extBut (Ne.symm nei)⟩
 done:=by
  intro X hP hw hK hc i pins s σ H E I hf st hg
  subst hP hw hK
  obtain ⟨xs,hq1,hend⟩:=hg
  obtain ⟨its1,rv1,p1,hz1⟩:=I.list hq1
  have hl1:=rv1.length
  obtain ⟨⟨old,a1⟩,a4⟩:=st
  refine wpAny_pyNext_enum_end (I.ok.hd hc) a1 a4 p1.isList (by simp;lia) fun h' hk=>⟨rfl,I.turnedL (t':=s.toks) (fp:=[e,it]) (fun b o hb q=>?_) hf⟩
  simp only[mem_cons,not_mem_nil,or_false,not_or] at hb
  exact hk b o hb.2 q
 self:=fun _ _ _ _ _ st h=>wpAny_pyIter_enum st.1.choose_spec h
def ZmA (K:W.Frag) (ta:TA):TI:=fun σ H R=>ta σ H fun vs H1=>∃ l1,vs=[.ref l1]/\(∃ xs,SqL K H1 l1 xs)/\R (Ite K l1) H1
theorem Zma {X:Cx} {a:Expr} {ta:TA} {p pos pos':Pos} {elts:List Expr} {x1} (hg:Gl X "enumerate") (hm:X.mg "enumerate"=none) (ha:PA X [a] ta) (hs:starEach [a] X.env=[(false,eval a X.env)]:=by rfl) :
  PI X (.Tuple elts x1 pos') (.Call (.Name "enumerate" p) [a] [] pos) (ZmA X.K ta):=by
 intro pins s σ H R I h
 refine Call_ (Zic I hg hm Zg4 (PyProof.Rows.callWith_type1 (thn (ha pos pins s σ H _ I h) fun us s1 ⟨vs,H1,I1,r1,q1⟩=>?_) (by rw[hs];rfl) (by rfl)))
 obtain ⟨l1,e,⟨xs,q1⟩,q⟩:=q1
 subst e
 cases r1 with
 | cons r rr =>
  cases rr
  cases r
  obtain ⟨its1,rv1,p1,hz1⟩:=I1.list q1
  refine call_enumerate_list p1.isList fun h' a1 a4 a6 a7=>?_
  have I2:Inv X pins σ H1 { s1 with heap:=h' }:=I1.kept (t':=s1.toks) a7
  refine wpAny_pyIter_enum (s:={ s1 with heap:=h' }) a1 ?_
  refine ⟨s1.heap.objs.size+1,[s1.heap.objs.size+1,s1.heap.objs.size],_,_,H1,rfl,I2,Zi1 (l:=l1) (Nat.succ_ne_self _),⟨⟨_,a1⟩,a4⟩,fun b hb=>?_,q⟩
  have hb':s1.heap.objs.size<=b:=by
   simp only[mem_cons,not_mem_nil,or_false] at hb
   rcases hb with rfl|rfl
   ·exact Nat.le_add_right _ _
   ·exact Nat.le_refl _
  exact I1.fpOk hb' (I1.hok.fresh hb')
theorem ZjK {X:Cx} {K:W.Frag} {a:Expr} {ta:TA} {p pos pos':Pos} {elts:List Expr} {x1} (h:X.K=K) (hg:Gl X "enumerate") (hm:X.mg "enumerate"=none) (ha:PA X [a] ta) (hs:starEach [a] X.env=[(false,eval a X.env)]:=by rfl) :
  PI X (.Tuple elts x1 pos') (.Call (.Name "enumerate" p) [a] [] pos) (ZmA K ta):=h▸Zma hg hm ha hs
def ieK (K:W.Frag) (R:It->Hp->Prop) (vs:List V) (H1:Hp):Prop:=∃ l1,vs=[.ref l1]/\(∃ xs,SqL K H1 l1 xs)/\R (Ite K l1) H1
theorem Zky {K:W.Frag} {σ:St} {H:Hp} {R:It->Hp->Prop} {ta:TA} (h:ta σ H (ieK K R)):ZmA K ta σ H R:=h
theorem ieK_of {K:W.Frag} {H:Hp} {R:It->Hp->Prop} {l1:Addr} {xs:List V} (h1:SqL K H l1 xs) (q:R (Ite K l1) H):ieK K R [.ref l1] H:=⟨l1,rfl,⟨xs,h1⟩,q⟩
theorem ZkY {K:W.Frag} {l1:Addr} {xs:List V} {g:TG} {tb:TS} {D:Ends} {σ:St} {H:Hp} (Pv:Nat->St->Hp->Prop) (h0:Pv 0 σ H) (hl:∀ i σ H,i<=xs.length->Pv i σ H->SqL K H l1 xs)
  (hs:∀ i x T σ H,xs[i]?=some x->H T=none->Pv i σ H->∀ N:St->Hp->Prop,(∀ σ' H',Pv (i+1) σ' H'->N σ' H')->g (.ref T) σ (upd H T (.tup [.int i,x])) fun σ2 H2=>tb { D with nx:=N,ct:=N,bk:=D.nx } σ2 H2) (hd:∀ σ H,Pv xs.length σ H->D.nx σ H) :
  ∃ W:Nat->Nat->St->Hp->Prop,(∃ m,W 0 m σ H)/\∀ i m σ H,W i m σ H ->
   ((Ite K l1).stop i H/\D.nx σ H)\/((Ite K l1).go i H/\∃ N:St->Hp->Prop,(∀ σ' H',N σ' H'->∃ m',m' < m/\W (i+1) m' σ' H')/\∀ x H',(Ite K l1).yld i H x H'->g x σ H' fun σ2 H2=>tb { D with nx:=N,ct:=N,bk:=D.nx } σ2 H2):=by
 refine ⟨fun i m σ H=>m=xs.length - i/\i<=xs.length/\Pv i σ H,⟨xs.length,by simp,Nat.zero_le _,h0⟩,?_⟩
 rintro i m σ H ⟨rfl,hi,p⟩
 have q1:=hl i σ H hi p
 by_cases hlt:i < xs.length
 ·refine .inr ⟨⟨xs,xs[i],q1,by simp[hlt]⟩,Pv (i+1),fun σ' H' p'=>⟨xs.length - (i+1),by lia,rfl,hlt,p'⟩,fun x H' y=>?_⟩
  obtain ⟨T,x,e1,e3,rfl,rfl⟩:=y
  exact hs i x T σ _ (e1 xs q1) e3 p _ fun _ _ h=>h
 ·have e:i=xs.length:=by lia
  subst e
  exact .inl ⟨⟨xs,q1,Nat.le_refl _⟩,hd σ H p⟩
section
variable {prog:Program} {w:World} {K:Type} [DecidableEq K] {knd:HeapKind prog w K}
theorem Zhf {A:Around} {E:Value->Shared->Prop} {s:Shared} {d a:Addr} {k:K} {xs:List (K×Addr×Value)} {dflt:Value} {Q:Value->Shared->Prop} (room:knd.room A) (is:knd.is s.heap k a) (dd:Heap.DictOfH knd s.heap d xs) (hz:xs.length<=sizeLine)
  (h1:∀ p,atKey xs k=some p->Q p.2 { s with toks:=s.toks+knd.draws k })
  (h2:atKey xs k=none->∀ h',Heap.DictOfH knd h' d (xs++[(k,a,dflt)])->Heap.SameBut d s.heap h'->Q dflt { s with heap:=h',toks:=s.toks+knd.draws k }) :
  wpAny (model prog w) A (dictSetDefault d (.ref a) dflt) Q E s:=by
 obtain ⟨o,es,ep,ho,hx,hd,hes,hk,hn⟩:=dd
 unfold dictSetDefault
 refine wpAny_holding (wpAny_bind (knd.pyHash room is ?_))
 refine wpAny_bind (wpAny_dictFind_heap (s:={ s with toks:=s.toks+knd.draws k }) room is ho hd hes hk hn (fun hno=>?_) (fun j p hj=>?_))
 ·have hsz:es.size=xs.length:=size_of_entries hes
  refine wpAny_bind (wpAny_rule (wpAny_bind (wpAny_updateDictKeys (s:={ s with toks:=s.toks+knd.draws k }) ho hd (wpAny_pure ?_) (by rw[hsz];exact hz) (by simp))))
  refine h2 (atKey_none_of_get hno) _ ⟨_,_,_,Heap.get?_update_self _ ho (Obj.isFreed_of_dict (Obj.data_mapDictKeys hd _)),Obj.ExactDict.mapDictKeys hx _,Obj.data_mapDictKeys hd _,?_,?_,?_⟩ (Heap.SameBut.update ..)
  ·rw[Array.toList_push,hes,map_append]
   rfl
  ·intro x hx'
   rcases mem_append.mp hx' with hx'|hx'
   ·exact knd.keeps (hk x hx') ho hd (Heap.SameBut.update ..)
   ·rw[mem_singleton.mp hx']
    exact knd.keeps is ho hd (Heap.SameBut.update ..)
  ·rw[map_append]
   refine nodup_append.mpr ⟨hn,by simp,fun x hx' y hy=>?_⟩
   rw[mem_singleton.mp hy]
   intro e
   have e':x=k:=e
   exact not_mem_keys_of_get hno (e'▸hx')
 ·refine wpAny_bind (wpAny_dictEntries (s:={ s with toks:=s.toks+knd.draws k }) ho hd ?_)
  have he:=entry_at hes j
  rw[hj] at he
  simp only[he,Option.map_some]
  refine wpAny_bind (wpAny_rule (wpAny_pure ?_))
  exact h1 p (atKey_of_get hn hj)
theorem ZfT (knd:HeapKind prog w K) (d a:Addr) (hd:(d == sysModules)=false) (dflt:Value) :
  MeetsIn prog w (Builtin.«dict.setdefault» { pos:=[.ref d,.ref a,dflt] }) fun A R s =>
   knd.room A.in1/\∃ k xs,knd.is s.heap k a/\Heap.DictOfH knd s.heap d xs/\xs.length<=sizeLine /\
    (∀ p,atKey xs k=some p->R (.ok (.ret p.2)) { s with toks:=s.toks+knd.draws k }) /\
    (atKey xs k=none->∀ h',Heap.DictOfH knd h' d (xs++[(k,a,dflt)])->Heap.SameBut d s.heap h'->R (.ok (.ret dflt)) { s with heap:=h',toks:=s.toks+knd.draws k }):=by
 rintro A R s ⟨room,k,xs,is,dd,hz,h1,h2⟩
 have key:wpAny (model prog w) A.in1 (dictSetDefault d (.ref a) dflt >>= fun v=>ret v) (fun fin s' =>
     match fin with
     | Fin.done f=>R (Except.ok f) s'
     | Fin.again c'=>c'.quiet=true/\codeAny (model prog w) A c' R s') (fun e s'=>R (Except.error e) s') s :=
  wpAny_bind (Zhf room is dd hz (fun p hp=>wpAny_pure (h1 p hp)) (fun hn h' a b=>wpAny_pure (h2 hn h' a b)))
 unfold Builtin.«dict.setdefault»
 refine wpAny_bind (wpAny_bind (wpAny_notOrdered_dict dd.typeIs ?_))
 refine wpAny_of_eq (a:=(d,Value.ref a,some dflt)) rfl ?_
 show wpAny _ _ (if (d == sysModules)=true then _ else _) _ _ _
 rw[hd]
 exact key
end
def Zll (td ty tx:TE):TE:=fun σ H Q=>td σ H fun x H1=>∃ a,x=.ref a/\IsD H1 a/\ty σ H1 fun y H2=>tx σ H2 fun z H3=>∃ kvs k b,H3 a=some (.dT kvs)/\y=.ref b/\H3 b=some (.tup (k.map kV))/\kvs.length < sizeLine/\(∀ v,valV kvs k=some v->Q v H3)/\(valV kvs k=none->Q z (upd H3 a (.dT (putK kvs k z))))
theorem Zk4 {X:Cx} {pins:List (Addr×Obj)} {σ:St} {H:Hp} {s:Shared} {a b:Addr} {A:Around} {E:Value->Shared->Prop} {kvs:List (List Key×V)} {k:List Key} {z:V} {r:Value} {Q:Value->Shared->Prop} (hu:A.units+1 < cLine) (I:Inv X pins σ H s) (e:H a=some (.dT kvs)) (eb:H b=some (.tup (k.map kV))) (hl:kvs.length < sizeLine) (rz:RelV z r)
  (h1:∀ v,valV kvs k=some v->∀ w' s',Inv X pins σ H s'->RelV v w'->Q w' s') (h2:valV kvs k=none->∀ s',Inv X pins σ (upd H a (.dT (putK kvs k z))) s'->Q r s') :
  wpAny (model X.prog X.w) A (call (.builtin "dict.setdefault") [.ref a,.ref b,r]) Q E s:=by
 obtain ⟨z0,hd,xs,rel,dd⟩:=dt_of I.hok e
 have hz:xs.length<=sizeLine:=by rw[<-Paired.length rel];exact z0
 refine call_meetsIn PySem.F.slot_dict_setdefault dd.typeIs PySem.F.entry_dict_setdefault (PySem.F.args_dict_setdefault_3 _ _ _) (ZfT (tupleKind (Zbt X.prog X.w)) a b hd r) ⟨tupleKind_room_in1 hu,k,xs,Ze7 I.hok eb,dd,hz,fun p hp=>?_,fun hn h' dd' hs=>?_⟩
 ·have q:=rel.val k
  rw[hp] at q
  cases hv:valV kvs k with
  | none=>rw[hv] at q;cases q
  | some v =>
   rw[hv] at q
   exact h1 v hv _ _ (I.tok _) q
 ·have q:=rel.val k
  rw[hn] at q
  cases hv:valV kvs k with
  | some v=>rw[hv] at q;cases q
  | none =>
   refine h2 hv _ ?_
   have hl':(putK kvs k z).length<=sizeLine:=by have:=Zcs kvs k z;lia
   rw[<-storedH_new hn b r] at dd'
   obtain ⟨q,es,ep,hq,h2,h3,h4,_,h5⟩:=dd'
   refine ZhK I (by rw[e];exact True.intro) hs ⟨q,hq⟩ ⟨hl',hd,_,(rel.put k eb rz).keeps fun c ys ec=>?_,q,es,ep,hq,h2,h3,h4,h5⟩
   rw[Zax (Zmo ec e (fun z=>nomatch z))]
   exact ec
section
variable {X:Cx} {o e f:Expr} {apos cpos:Pos} {td ty tx:TE}
theorem ZkE (hu:X.A.units+1 < cLine) (ho:PE X o td) (he:PE X e ty) (hf:PE X f tx) (m:M2 X o "setdefault" apos e f cpos):PE X (.Call (.Attribute o "setdefault" apos) [e,f] [] cpos) (Zll td ty tx):=by
 intro pins s σ H Q I h
 refine wpAny_Call_method m.base m.few m.line PySem.F.plainAttrs_dict PySem.F.slot_dict_setdefault PySem.F.type_dict_setdefault (thn (ho pins s σ H _ I h) fun u s1 ⟨x,H1,I1,rx,a,ex,d,q1⟩=>?_)
 subst ex
 obtain rfl:u=Value.ref a:=rx
 obtain ⟨t1,t2,_⟩:=ZlA I1 d
 refine ⟨t1,t2,?_⟩
 rw[m.trees]
 refine Calls.callWith_builtin rfl (Calls.evalArgs_plain (Calls.spliced_cons (thn (he pins s1 σ H1 _ I1 q1) fun iv s2 ⟨y,H2,I2,ry,q2⟩=>Calls.spliced_cons (thn (hf pins s2 σ H2 _ I2 q2) fun jv s3 ⟨z,H3,I3,rz,kvs,k,b,e3,ey,eb,hl,q3,q4⟩=>Calls.spliced_nil ?_))))
 subst ey
 obtain rfl:iv=Value.ref b:=ry
 exact Zk4 hu I3 e3 eb hl rz (fun v hv w' s4 I4 rw'=>⟨_,H3,I4,rw',q3 v hv⟩) (fun hn s4 I4=>⟨_,_,I4,rz,q4 hn⟩)
end
def kDSetD (Q:VK) (a:Addr) (y z:V) (H3:Hp):Prop:=∃ kvs k b,H3 a=some (.dT kvs)/\y=.ref b/\H3 b=some (.tup (k.map kV))/\kvs.length < sizeLine/\(∀ v,valV kvs k=some v->Q v H3)/\(valV kvs k=none->Q z (upd H3 a (.dT (putK kvs k z))))
theorem Zkz {td ty tx:TE} {σ:St} {H:Hp} {Q:VK} (h:td σ H fun x H1=>∃ a,x=.ref a/\IsD H1 a/\ty σ H1 fun y H2=>tx σ H2 fun z H3=>kDSetD Q a y z H3):Zll td ty tx σ H Q:=h
theorem isD_t {H:Hp} {a:Addr} {kvs:List (List Key×V)} (h:H a=some (.dT kvs)):IsD H a:=.inr ⟨kvs,.inl h⟩
def key2 (p:Int×Int):List Key:=[.inl p.1,.inl p.2]
def CTup (K:W.Frag) (a:Addr) (xs:List V):Prop:=∃ (o:Obj) (its:Array Value) (n:Nat),K.lookup a=some o/\o.cls=.type "tuple"/\o.data=.seq its n/\its.size<=sizeLine/\Vals xs its.toList
def entC (w:World) (q:Str×Tok×Addr):DictEntry:=⟨hashStr w q.1,.str q.1 q.2.1,.ref q.2.2⟩
def CDat (K:W.Frag) (w:World) (a:Addr) (tb:List (Str×List Str)):Prop :=
 (a == sysModules)=false/\(tb.map (·.1)).Nodup/\∃ (rows:List (Str×Tok×Addr)) (ep:Nat),K.lookup a=some { cls:=.type "dict",data:=.dict (rows.map (entC w)).toArray ep } /\
  Paired (fun (p:Str×List Str) (q:Str×Tok×Addr)=>p.1=q.1/\CTup K q.2.2 (p.2.map V.str)) tb rows
theorem ZmM {K:W.Frag} {tb:List (Str×List Str)} {rows:List (Str×Tok×Addr)} (h:Paired (fun (p:Str×List Str) (q:Str×Tok×Addr)=>p.1=q.1/\CTup K q.2.2 (p.2.map V.str)) tb rows) (x:Str) :
  (tb.lookup x=none/\valueAt (rows.map fun q=>((Sum.inr q.1:Key),Value.ref q.2.2)) (Sum.inr x)=none)\/∃ ks a,tb.lookup x=some ks/\CTup K a (ks.map V.str)/\valueAt (rows.map fun q=>((Sum.inr q.1:Key),Value.ref q.2.2)) (Sum.inr x)=some (.ref a):=by
 induction h with
 | nil=>exact .inl ⟨rfl,rfl⟩
 | @cons p q ps qs hq t ih =>
  obtain ⟨p1,p2⟩:=p
  obtain ⟨q1,qt,qa⟩:=q
  obtain ⟨e,c⟩:=hq
  dsimp only at e c
  subst e
  by_cases z:x=p1
  ·subst z
   refine .inr ⟨p2,qa,by simp[List.lookup],c,?_⟩
   simp[valueAt]
  ·have z1:(x == p1)=false:=by simpa using z
   have z2:¬ p1=x:=fun w=>z w.symm
   have e1:List.lookup x ((p1,p2)::ps)=List.lookup x ps:=by simp[List.lookup,z1]
   have e2:valueAt (((p1,qt,qa)::qs).map fun q=>((Sum.inr q.1:Key),Value.ref q.2.2)) (Sum.inr x)=valueAt (qs.map fun q=>((Sum.inr q.1:Key),Value.ref q.2.2)) (Sum.inr x):=by
    simp[valueAt,z2]
   rw[e1,e2]
   exact ih
theorem Ziq {P : Program} {w : World} : ∀ (rows : List (Str × Tok × Addr)), Pairs (Zbt P w) (rows.map (entC w)) (rows.map fun q => ((Sum.inr q.1 : Key), Value.ref q.2.2))
  | [] => .nil
  | q :: rows => by
    rw[map_cons,map_cons]
    exact .cons (ZdR P w q.1 q.2.1) rfl (Ziq rows)
theorem CDat.dict {P:Program} {w:World} {K:W.Frag} {h:Heap} {a:Addr} {tb:List (Str×List Str)} (c:CDat K w a tb) (hk:K.In h):∃ vs,h.DictOf (Zbt P w) a vs /\
  ∀ x,(tb.lookup x=none/\valueAt vs (Sum.inr x)=none)\/∃ ks b,tb.lookup x=some ks/\CTup K b (ks.map V.str)/\valueAt vs (Sum.inr x)=some (.ref b):=by
 obtain ⟨hs,nd,rows,ep,hl,pr⟩:=c
 refine ⟨rows.map fun q=>((Sum.inr q.1:Key),Value.ref q.2.2),⟨_,_,ep,hk a _ hl,⟨rfl,rfl,rfl⟩,rfl,?_,by simpa using Ziq rows,?_⟩,ZmM pr⟩
 ·intro e he
  have he:e∈rows.map (entC w):=by simpa using he
  obtain ⟨q,hq,rfl⟩:=mem_map.mp he
  exact ⟨.inr q.1,ZdR P w q.1 q.2.1,rfl⟩
 ·have e:rows.map (·.1)=tb.map (·.1):=by
   clear hl nd
   induction pr with
   | nil=>rfl
   | cons hq t ih=>rw[map_cons,map_cons,ih,hq.1]
  rw[map_map]
  have:(rows.map (·.1)).Nodup:=e▸nd
  have e2:rows.map ((fun x:Key×Value=>x.1) ∘ fun q:Str×Tok×Addr=>((Sum.inr q.1:Key),Value.ref q.2.2))=(rows.map (·.1)).map Sum.inr:=by rw[map_map];rfl
  rw[e2]
  exact List.Pairwise.map _ (fun a b z z'=>z (Sum.inr.inj z')) this
def IsCD (K:W.Frag) (w:World) (mg:Str->Option Value) (x:Str) (tb:List (Str×List Str)):Prop:=∃ a,mg x=some (.ref a)/\CDat K w a tb
def tCD (K:W.Frag) (w:World) (tb:List (Str×List Str)):TE:=fun _ H Q=>∀ a,CDat K w a tb->Q (.ref a) H
def rInCD (K:W.Frag) (w:World) (tb:List (Str×List Str)):R2:=fun x y H Q=>∃ a k,x=.str k/\y=.ref a/\CDat K w a tb/\Q (.bl (tb.lookup k).isSome) H
section
variable {X:Cx} {o i e value:Expr} {pos pos' tpos:Pos} {td ty tv:TE} {x:Str} {K:W.Frag} {w:World} {tb:List (Str×List Str)}
theorem pe_cd (hg:Gl X x) (h:IsCD K w X.mg x tb) (hd:(x == ("__debug__":Str))=false:=by decide):PE X (.Name x pos) (tCD K w tb):=by
 obtain ⟨a,h,r⟩:=h
 intro pins s σ H Q I q
 exact Zhy (v:=.ref a) hg h rfl hd pins s σ H Q I (q a r)
theorem Zml (hK:X.K=K) (hw:X.w=w):OpR X (compareOp .In) (rInCD K w tb):=by
 subst hK;subst hw
 intro pins s σ H x y v u Q I rx ry h
 obtain ⟨a,k,rfl,rfl,c,q⟩:=h
 obtain rfl:u=Value.ref a:=ry
 obtain ⟨vs,dd,hf⟩:=c.dict (P:=X.prog) I.kIn
 refine wpAny_in_of (ZhD (k:=Sum.inr k) rx) c.1 dd.mapOf ?_
 refine ⟨.bl (tb.lookup k).isSome,H,I.tok _,?_,q⟩
 rcases hf k with ⟨e1,e2⟩|⟨ks,b,e1,_,e2⟩
 ·rw[e1,e2];rfl
 ·rw[e1,e2];rfl
end
theorem rd_cd {K:W.Frag} {w:World} {tb:List (Str×List Str)} {σ:St} {H:Hp} {Q:VK} (h:∀ a,CDat K w a tb->Q (.ref a) H):tCD K w tb σ H Q:=h
theorem ZlZ {K:W.Frag} {w:World} {tb:List (Str×List Str)} {a:Addr} {k:Str} {H:Hp} {Q:VK} (c:CDat K w a tb) (h:Q (.bl (tb.lookup k).isSome) H):rInCD K w tb (.str k) (.ref a) H Q:=⟨a,k,rfl,rfl,c,h⟩
theorem ZkA {td ty:TE} {σ:St} {H:Hp} {Q:VK} (h:td σ H fun x H1=>∃ a,x=.ref a/\IsD H1 a/\ty σ H1 fun y H2=>∃ o,DGet H2 a y o/\Q (o.getD .non) H2):Zlm td ty σ H Q:=h
end L2
end
section
namespace L2
open PySem
theorem Zkv (n:Nat):(List.replicate n [V.int 0]).flatten=(List.replicate n (0:Int)).map V.int:=by
 induction n with
 | zero=>rfl
 | succ n ih=>rw[replicate_succ,flatten_cons,ih,replicate_succ,map_cons];rfl
theorem Zhj {H:Hp} {l:Addr} {k:Int} {Q:VK} (h:H l=some (.lst [.int 0])) (h2:k<=1000) (h1:-1000<=k) (q:∀ p,H p=none->Q (.ref p) (upd H p (.lst ((List.replicate k.toNat (0:Int)).map V.int)))):rRep (.ref l) (.int k) H Q :=
 ⟨l,k,_,rfl,rfl,h,by lia,by lia,by rw[length_singleton,Nat.one_mul];exact Zcv (by lia),fun p hp=>by rw[Zkv];exact q p hp⟩
inductive Rw where
 | put (p n:Int)|copy (p q:Int)|plus (p q r:Int)|less (p q r:Int)|times (p q n:Int)|take (p:Int)|tell (p:Int)|jump (t:Int)|zero (p t:Int)|below (p t:Int)|call (p f:Int) (qs:List Int)|back (p:Int)
def Rw.row:Rw->Str×List D
 | .put p n=>("put",[.int p,.int n])
 | .copy p q=>("copy",[.int p,.int q])
 | .plus p q r=>("plus",[.int p,.int q,.int r])
 | .less p q r=>("less",[.int p,.int q,.int r])
 | .times p q n=>("times",[.int p,.int q,.int n])
 | .take p=>("take",[.int p])
 | .tell p=>("tell",[.int p])
 | .jump t=>("jump",[.int t])
 | .zero p t=>("zero",[.int p,.int t])
 | .below p t=>("below",[.int p,.int t])
 | .call p f qs=>("call",[.int p,.int f,.tup (qs.map D.int)])
 | .back p=>("back",[.int p])
structure Df where
 takes:Int
 boxes:Int
 rows:List Rw
def In0 (n m:Int):Prop:=0<=n/\n < m
def Rw.Ok (P:List Df) (nb many:Int):Rw->Prop
 | .put p n=>In0 p nb/\n.natAbs<=10 ^ 60
 | .copy p q=>In0 p nb/\In0 q nb
 | .plus p q r=>In0 p nb/\In0 q nb/\In0 r nb
 | .less p q r=>In0 p nb/\In0 q nb/\In0 r nb
 | .times p q n=>In0 p nb/\In0 q nb/\n.natAbs<=99
 | .take p=>In0 p nb
 | .tell p=>In0 p nb
 | .jump t=>In0 t many
 | .zero p t=>In0 p nb/\In0 t many
 | .below p t=>In0 p nb/\In0 t many
 | .call p f qs=>In0 p nb/\(∃ d,0<=f/\P[f.toNat]?=some d/\(qs.length:Int)=d.takes)/\∀ q∈qs,In0 q nb
 | .back p=>In0 p nb
def Rw.last:Rw->Prop
 | .jump _=>True
 | .back _=>True
 | _=>False
structure DfOk (P:List Df) (d:Df):Prop where
 b:1<=d.boxes/\d.boxes<=1000
 t:0<=d.takes/\d.takes<=d.boxes
 n:d.rows.length<=1000
 rows:∀ r∈d.rows,r.Ok P d.boxes d.rows.length
 last:∃ r,d.rows[d.rows.length - 1]?=some r/\r.last
def PgOk (P:List Df):Prop:=P≠[]/\P.length<=1000/\∀ d∈P,DfOk P d
inductive En where
 | back (n:Int)|dry (f at':Int)|deep (f at':Int)
def En.d:Option En->D
 | none=>.non
 | some (.back n)=>.tup [.str "back",.int n]
 | some (.dry f a)=>.tup [.str "dry",.int f,.int a]
 | some (.deep f a)=>.tup [.str "deep",.int f,.int a]
abbrev Fr:=Int×Int×List Int
structure HS where
 frames:List Fr
 left:List Int
 news:List Int
 gone:Int
 fin:Option En
def ZbL (P:List Df) (f at':Int):Option Rw:=(P[f.toNat]?).bind fun d=>d.rows[at'.toNat]?
def ZaL (bx:List Int) (p:Int):Int:=bx.getD p.toNat 0
def Zbz (bx:List Int) (p v:Int):List Int:=bx.set p.toNat v
def Rw.calc (bx:List Int):Rw->Option (Int×Int)
 | .put p n=>some (p,n)
 | .copy p q=>some (p,ZaL bx q)
 | .plus p q r=>some (p,ZaL bx q+ZaL bx r)
 | .less p q r=>some (p,ZaL bx q - ZaL bx r)
 | .times p q n=>some (p,ZaL bx q * n)
 | _=>none
def Rw.next (bx:List Int) (at':Int):Rw->Int
 | .jump t=>t
 | .zero p t=>if ZaL bx p=0 then t else at'+1
 | .below p t=>if ZaL bx p < 0 then t else at'+1
 | _=>at'+1
def ZbT (P:List Df) (f:Int):Int:=((P[f.toNat]?).map (·.boxes)).getD 0
def Zb9 (P:List Df) (f:Int) (ns:List Int):Fr:=(f,0,ns++List.replicate ((ZbT P f).toNat - ns.length) 0)
def ZbO (h:HS) (fr:Fr):Rw->Option En
 | .back p=>if h.frames.length=1 then some (.back (ZaL fr.2.2 p)) else none
 | .take _=>if h.left=[] then some (.dry fr.1 fr.2.1) else none
 | .call _ _ _=>if 20<=h.frames.length then some (.deep fr.1 fr.2.1) else none
 | _=>none
def Rw.own3 (bx left news : List Int) : Rw -> List Int × List Int × List Int
  | .tell p => (bx, left, news ++ [ZaL bx p])
  | .take p => (Zbz bx p (left.headD 0), left.tail, news)
  | r => match r.calc bx with
    | some (p, v) => (Zbz bx p v, left, news)
    | none => (bx, left, news)
def eff (P : List Df) (fs : List Fr) (fr : Fr) (left news : List Int) : Rw -> List Fr × List Int × List Int
  | .back p => match fs.getLast? with
    | some w => match ZbL P w.1 w.2.1 with
      | some (.call p2 _ _) => (fs.dropLast ++ [(w.1, w.2.1 + 1, Zbz w.2.2 p2 (ZaL fr.2.2 p))], left, news)
      | _ => (fs, left, news)
    | none => (fs, left, news)
  | .call _ g qs => (fs ++ [fr, Zb9 P g (qs.map (ZaL fr.2.2))], left, news)
  | r => (fs ++ [(fr.1, r.next fr.2.2 fr.2.1, (r.own3 fr.2.2 left news).1)], (r.own3 fr.2.2 left news).2.1, (r.own3 fr.2.2 left news).2.2)
def HS.go (P : List Df) (h : HS) : HS := match h.fin with
  | some _ => h
  | none => match h.frames.getLast? with
    | none => h
    | some fr => match ZbL P fr.1 fr.2.1 with
      | none => h
      | some r => match ZbO h fr r with
        | some e => { h with fin := some e }
        | none => { h with frames := (eff P h.frames.dropLast fr h.left h.news r).1, left := (eff P h.frames.dropLast fr h.left h.news r).2.1, news := (eff P h.frames.dropLast fr h.left h.news r).2.2, gone := h.gone + 1 }
structure FrOk (P:List Df) (g:Int) (fr:Fr):Prop where
 ex:∃ d,0<=fr.1/\P[fr.1.toNat]?=some d/\In0 fr.2.1 d.rows.length/\(fr.2.2.length:Int)=d.boxes
 small:∀ x∈fr.2.2,x.natAbs<=10 ^ 60 * 100 ^ g.toNat
structure HsOk (P:List Df) (h:HS):Prop where
 ne:h.frames≠[]
 few:h.frames.length<=20
 fr:∀ fr∈h.frames,FrOk P h.gone fr
 wait:∀ i fr,h.frames[i]?=some fr->i+1 < h.frames.length->∃ p f qs,ZbL P fr.1 fr.2.1=some (.call p f qs)
 left:∀ x∈h.left,x.natAbs<=10 ^ 60
 gone:0<=h.gone
 sz:h.left.length+h.news.length<=100000+h.gone.toNat
def ZdN (rs:List Rw):List D:=rs.map fun r=>rowD r.row
def DfAt (own:List Addr) (H:Hp) (d:Df) (v:V):Prop:=∃ t q ys,v=.ref t/\H t=some (.tup [.int d.takes,.int d.boxes,.ref q])/\H q=some (.lst ys)/\q∉own/\Reps H (ZdN d.rows) ys
def PgAt (own:List Addr) (H:Hp) (P:List Df) (pp:Addr):Prop:=∃ vs,H pp=some (.lst vs)/\pp∉own/\vs.length=P.length/\∀ (i:Nat) (d:Df) (v:V),P[i]?=some d->vs[i]?=some v->DfAt own H d v
def OSame (own:List Addr) (H H':Hp):Prop:=∀ a o,a∉own->H a=some o->H' a=some o
def ZeA (own:List Addr) (H:Hp):Prop:=∀ a∈own,∀ xs,H a≠some (.tup xs)
theorem OSame.refl (own:List Addr) (H:Hp):OSame own H H:=fun _ _ _ h=>h
theorem OSame.of {own:List Addr} {H H':Hp} (s:Same H H'):OSame own H H':=fun a o _ h=>s a o h
theorem OSame.ts {own:List Addr} {H H':Hp} (s:OSame own H H') (n:ZeA own H):TSame H H':=fun a xs e=>s a _ (fun z=>n a z xs e) e
theorem OSame.trans {own own':List Addr} {H H1 H2:Hp} (a:OSame own H H1) (b:OSame own' H1 H2) (h:∀ x∈own',x∈own\/H x=none):OSame own H H2:=fun x o n e=>b x o (fun z=>by
 rcases h x z with q|q
 ·exact n q
 ·rw[q] at e;cases e) (a x o n e)
theorem OSame.wr {own:List Addr} {H:Hp} {a:Addr} {o:HO} (h:a∈own):OSame own H (upd H a o):=fun b u n e=>by
 rw[Zax (fun z:b=a=>n (z▸h))]
 exact e
theorem DfAt.by {own own':List Addr} {H H':Hp} {d:Df} {v:V} (h:DfAt own H d v) (s:OSame own H H') (t:TSame H H') (m:∀ x∈own',x∈own\/H x=none):DfAt own' H' d v:=by
 obtain ⟨a,q,ys,rfl,h1,h2,n,r⟩:=h
 refine ⟨a,q,ys,rfl,t _ _ h1,s _ _ n h2,fun z=>?_,r.mono t⟩
 rcases m q z with k|k
 ·exact n k
 ·rw[k] at h2;cases h2
theorem PgAt.by {own own':List Addr} {H H':Hp} {P:List Df} {pp:Addr} (h:PgAt own H P pp) (s:OSame own H H') (t:TSame H H') (m:∀ x∈own',x∈own\/H x=none):PgAt own' H' P pp:=by
 obtain ⟨vs,h1,n,hl,k⟩:=h
 refine ⟨vs,s _ _ n h1,fun z=>?_,hl,fun i d v e1 e2=>(k i d v e1 e2).by s t m⟩
 rcases m pp z with q|q
 ·exact n q
 ·rw[q] at h1;cases h1
end L2
end
section
namespace L2
open PySem
theorem ZgC {k:Str} {v:V} {l:List (Str×V)}:List.lookup k ((k,v)::l)=some v:=by simp[List.lookup]
theorem Za9 {k k':Str} {v:V} {l:List (Str×V)} (h:¬ k=k'):List.lookup k ((k',v)::l)=List.lookup k l:=by
 have hb:(k == k')=false:=by simpa using h
 simp only[List.lookup,hb]
theorem Zhx {k:Str} {v x:V} {l:List (Str×V)}:putF k v ((k,x)::l)=(k,v)::l:=by simp[putF]
theorem ZbI {k k':Str} {v x:V} {l:List (Str×V)} (h:¬ k'=k):putF k v ((k',x)::l)=(k',x)::putF k v l:=by simp[putF,h]
theorem Zei {k:Str} {v:V}:putF k v []=[(k,v)]:=rfl
def ZaY (a b c d e f:V):List (Str×V):=[("program",a),("frames",b),("news",c),("gone",d),("left",e),("end",f)]
section
variable {a b c d e f v:V}
theorem ZcV:(ZaY a b c d e f).lookup ("program":Str)=some a:=by unfold ZaY;rw[ZgC]
theorem Zbn:(ZaY a b c d e f).lookup ("frames":Str)=some b:=by unfold ZaY;rw[Za9 (by decide +kernel:¬ ("frames":Str)="program"),ZgC]
theorem ZjO:putF "frames" v (ZaY a b c d e f)=ZaY a v c d e f:=by unfold ZaY;rw[ZbI (by decide +kernel:¬ ("program":Str)="frames"),Zhx]
theorem ZhF:(ZaY a b c d e f).lookup ("news":Str)=some c:=by unfold ZaY;rw[Za9 (by decide +kernel:¬ ("news":Str)="program"),Za9 (by decide +kernel:¬ ("news":Str)="frames"),ZgC]
theorem hp_news:putF "news" v (ZaY a b c d e f)=ZaY a b v d e f:=by unfold ZaY;rw[ZbI (by decide +kernel:¬ ("program":Str)="news"),ZbI (by decide +kernel:¬ ("frames":Str)="news"),Zhx]
theorem ZdV:(ZaY a b c d e f).lookup ("gone":Str)=some d:=by unfold ZaY;rw[Za9 (by decide +kernel:¬ ("gone":Str)="program"),Za9 (by decide +kernel:¬ ("gone":Str)="frames"),Za9 (by decide +kernel:¬ ("gone":Str)="news"),ZgC]
theorem ZjN:putF "gone" v (ZaY a b c d e f)=ZaY a b c v e f:=by unfold ZaY;rw[ZbI (by decide +kernel:¬ ("program":Str)="gone"),ZbI (by decide +kernel:¬ ("frames":Str)="gone"),ZbI (by decide +kernel:¬ ("news":Str)="gone"),Zhx]
theorem Zfa:(ZaY a b c d e f).lookup ("left":Str)=some e:=by unfold ZaY;rw[Za9 (by decide +kernel:¬ ("left":Str)="program"),Za9 (by decide +kernel:¬ ("left":Str)="frames"),Za9 (by decide +kernel:¬ ("left":Str)="news"),Za9 (by decide +kernel:¬ ("left":Str)="gone"),ZgC]
theorem hp_left:putF "left" v (ZaY a b c d e f)=ZaY a b c d v f:=by unfold ZaY;rw[ZbI (by decide +kernel:¬ ("program":Str)="left"),ZbI (by decide +kernel:¬ ("frames":Str)="left"),ZbI (by decide +kernel:¬ ("news":Str)="left"),ZbI (by decide +kernel:¬ ("gone":Str)="left"),Zhx]
theorem Zij:(ZaY a b c d e f).lookup ("end":Str)=some f:=by unfold ZaY;rw[Za9 (by decide +kernel:¬ ("end":Str)="program"),Za9 (by decide +kernel:¬ ("end":Str)="frames"),Za9 (by decide +kernel:¬ ("end":Str)="news"),Za9 (by decide +kernel:¬ ("end":Str)="gone"),Za9 (by decide +kernel:¬ ("end":Str)="left"),ZgC]
theorem hp_end:putF "end" v (ZaY a b c d e f)=ZaY a b c d e v:=by unfold ZaY;rw[ZbI (by decide +kernel:¬ ("program":Str)="end"),ZbI (by decide +kernel:¬ ("frames":Str)="end"),ZbI (by decide +kernel:¬ ("news":Str)="end"),ZbI (by decide +kernel:¬ ("gone":Str)="end"),ZbI (by decide +kernel:¬ ("left":Str)="end"),Zhx]
theorem hm_go:(ZaY a b c d e f).lookup ("go":Str)=none:=by unfold ZaY;rw[Za9 (by decide +kernel:¬ ("go":Str)="program"),Za9 (by decide +kernel:¬ ("go":Str)="frames"),Za9 (by decide +kernel:¬ ("go":Str)="news"),Za9 (by decide +kernel:¬ ("go":Str)="gone"),Za9 (by decide +kernel:¬ ("go":Str)="left"),Za9 (by decide +kernel:¬ ("go":Str)="end")];rfl
theorem ZjP:(ZaY a b c d e f).lookup ("end_at":Str)=none:=by unfold ZaY;rw[Za9 (by decide +kernel:¬ ("end_at":Str)="program"),Za9 (by decide +kernel:¬ ("end_at":Str)="frames"),Za9 (by decide +kernel:¬ ("end_at":Str)="news"),Za9 (by decide +kernel:¬ ("end_at":Str)="gone"),Za9 (by decide +kernel:¬ ("end_at":Str)="left"),Za9 (by decide +kernel:¬ ("end_at":Str)="end")];rfl
theorem ZjQ:(ZaY a b c d e f).lookup ("do_row":Str)=none:=by unfold ZaY;rw[Za9 (by decide +kernel:¬ ("do_row":Str)="program"),Za9 (by decide +kernel:¬ ("do_row":Str)="frames"),Za9 (by decide +kernel:¬ ("do_row":Str)="news"),Za9 (by decide +kernel:¬ ("do_row":Str)="gone"),Za9 (by decide +kernel:¬ ("do_row":Str)="left"),Za9 (by decide +kernel:¬ ("do_row":Str)="end")];rfl
theorem ZgJ:(ZaY a b c d e f).lookup ("give_back":Str)=none:=by unfold ZaY;rw[Za9 (by decide +kernel:¬ ("give_back":Str)="program"),Za9 (by decide +kernel:¬ ("give_back":Str)="frames"),Za9 (by decide +kernel:¬ ("give_back":Str)="news"),Za9 (by decide +kernel:¬ ("give_back":Str)="gone"),Za9 (by decide +kernel:¬ ("give_back":Str)="left"),Za9 (by decide +kernel:¬ ("give_back":Str)="end")];rfl
theorem ZjR:(ZaY a b c d e f).lookup ("do_own":Str)=none:=by unfold ZaY;rw[Za9 (by decide +kernel:¬ ("do_own":Str)="program"),Za9 (by decide +kernel:¬ ("do_own":Str)="frames"),Za9 (by decide +kernel:¬ ("do_own":Str)="news"),Za9 (by decide +kernel:¬ ("do_own":Str)="gone"),Za9 (by decide +kernel:¬ ("do_own":Str)="left"),Za9 (by decide +kernel:¬ ("do_own":Str)="end")];rfl
theorem hi_all:putF "end" f (putF "left" e (putF "gone" d (putF "news" c (putF "frames" b (putF "program" a [])))))=ZaY a b c d e f:=by
 unfold ZaY
 rw[Zei]
 rw[ZbI (by decide +kernel:¬ ("program":Str)="frames"),Zei]
 rw[ZbI (by decide +kernel:¬ ("program":Str)="news"),ZbI (by decide +kernel:¬ ("frames":Str)="news"),Zei]
 rw[ZbI (by decide +kernel:¬ ("program":Str)="gone"),ZbI (by decide +kernel:¬ ("frames":Str)="gone"),ZbI (by decide +kernel:¬ ("news":Str)="gone"),Zei]
 rw[ZbI (by decide +kernel:¬ ("program":Str)="left"),ZbI (by decide +kernel:¬ ("frames":Str)="left"),ZbI (by decide +kernel:¬ ("news":Str)="left"),ZbI (by decide +kernel:¬ ("gone":Str)="left"),Zei]
 rw[ZbI (by decide +kernel:¬ ("program":Str)="end"),ZbI (by decide +kernel:¬ ("frames":Str)="end"),ZbI (by decide +kernel:¬ ("news":Str)="end"),ZbI (by decide +kernel:¬ ("gone":Str)="end"),ZbI (by decide +kernel:¬ ("left":Str)="end"),Zei]
end
def AllAt (H:Hp) (l:List (Addr×HO)):Prop:=∀ e∈l,H e.1=some e.2
theorem AllAt.here {H:Hp} {l1 l2:List (Addr×HO)} {a:Addr} {o:HO} (h:AllAt H (l1++(a,o)::l2)):H a=some o:=h (a,o) (mem_append_right _ mem_cons_self)
theorem AllAt.wr {H:Hp} {l1 l2:List (Addr×HO)} {a:Addr} {o o':HO} (h:AllAt H (l1++(a,o)::l2)) (nd:((l1++(a,o)::l2).map (·.1)).Nodup):AllAt (upd H a o') (l1++(a,o')::l2):=by
 rw[map_append,map_cons] at nd
 obtain ⟨n1,n2,n3⟩:=nodup_append.mp nd
 obtain ⟨n4,n5⟩:=nodup_cons.mp n2
 intro e he
 rcases mem_append.mp he with he|he
 ·rw[Zax (n3 e.1 (mem_map_of_mem he) a mem_cons_self)]
  exact h e (mem_append_left _ he)
 ·rcases mem_cons.mp he with rfl|he
  ·exact Zag
  ·rw[Zax (fun z:e.1=a=>n4 (show a∈l2.map (·.1) from z▸mem_map_of_mem (f:=(·.1)) he))]
   exact h e (mem_append_right _ (mem_cons_of_mem _ he))
theorem AllAt.by {H H':Hp} {l:List (Addr×HO)} (h:AllAt H l) (s:∀ a o,a∈l.map (·.1)->H a=some o->H' a=some o):AllAt H' l:=fun e he=>s _ _ (mem_map_of_mem he) (h e he)
theorem AllAt.mono {H H':Hp} {l:List (Addr×HO)} (h:AllAt H l) (s:Same H H'):AllAt H' l:=h.by fun a o _ e=>s a o e
abbrev FZ:=(Addr×Addr)×Fr
def ZbS (z:FZ):List (Addr×HO):=[(z.1.1,.lst [.int z.2.1,.int z.2.2.1,.ref z.1.2]),(z.1.2,.lst (z.2.2.2.map V.int))]
def ZdW (C p dx pp pf pn pl:Addr) (fz:List FZ) (h:HS) (ve:V):List (Addr×HO) :=
 [(p,.ins C dx (ZaY (.ref pp) (.ref pf) (.ref pn) (.int h.gone) (.ref pl) ve)),(pf,.lst (fz.map fun z=>V.ref z.1.1)),(pn,.lst (h.news.map V.int)),(pl,.lst (h.left.map V.int))]++fz.flatMap ZbS
def ownA (p pf pn pl:Addr) (fz:List FZ):List Addr:=[p,pf,pn,pl]++fz.flatMap fun z=>[z.1.1,z.1.2]
theorem Zb2 {C p dx pp pf pn pl:Addr} {fz:List FZ} {h:HS} {ve:V}:(ZdW C p dx pp pf pn pl fz h ve).map (·.1)=ownA p pf pn pl fz:=by
 unfold ZdW ownA
 rw[map_append,map_flatMap]
 rfl
structure HA (C p dx pp pf pn pl:Addr) (fz:List FZ) (H:Hp) (P:List Df) (h:HS) (ve:V):Prop where
 all:AllAt H (ZdW C p dx pp pf pn pl fz h ve)
 nd:(ownA p pf pn pl fz).Nodup
 en:Rep H (En.d h.fin) ve
 pg:PgAt (ownA p pf pn pl fz) H P pp
 fr:fz.map (·.2)=h.frames
section
variable {C p dx pp pf pn pl:Addr} {fz:List FZ} {H:Hp} {P:List Df} {h:HS} {ve:V}
theorem HA.obj (a:HA C p dx pp pf pn pl fz H P h ve):H p=some (.ins C dx (ZaY (.ref pp) (.ref pf) (.ref pn) (.int h.gone) (.ref pl) ve)):=AllAt.here (l1:=[]) a.all
theorem HA.fl (a:HA C p dx pp pf pn pl fz H P h ve):H pf=some (.lst (fz.map fun z=>V.ref z.1.1)):=AllAt.here (l1:=[_]) a.all
theorem HA.nl (a:HA C p dx pp pf pn pl fz H P h ve):H pn=some (.lst (h.news.map V.int)):=AllAt.here (l1:=[_,_]) a.all
theorem HA.ll (a:HA C p dx pp pf pn pl fz H P h ve):H pl=some (.lst (h.left.map V.int)):=AllAt.here (l1:=[_,_,_]) a.all
theorem HA.z1 (a:HA C p dx pp pf pn pl fz H P h ve) {z:FZ} (m:z∈fz):H z.1.1=some (.lst [.int z.2.1,.int z.2.2.1,.ref z.1.2]):=a.all (z.1.1,_) (mem_append_right _ (mem_flatMap.mpr ⟨z,m,mem_cons_self⟩))
theorem HA.z2 (a:HA C p dx pp pf pn pl fz H P h ve) {z:FZ} (m:z∈fz):H z.1.2=some (.lst (z.2.2.2.map V.int)):=a.all (z.1.2,_) (mem_append_right _ (mem_flatMap.mpr ⟨z,m,mem_cons_of_mem _ mem_cons_self⟩))
theorem HA.notup (a:HA C p dx pp pf pn pl fz H P h ve):ZeA (ownA p pf pn pl fz) H:=by
 intro b hb xs e
 unfold ownA at hb
 rcases mem_append.mp hb with hb|hb
 ·simp only[mem_cons,not_mem_nil,or_false] at hb
  rcases hb with rfl|rfl|rfl|rfl
  ·rw[a.obj] at e;cases e
  ·rw[a.fl] at e;cases e
  ·rw[a.nl] at e;cases e
  ·rw[a.ll] at e;cases e
 ·obtain ⟨z,hz,hb⟩:=mem_flatMap.mp hb
  simp only[mem_cons,not_mem_nil,or_false] at hb
  rcases hb with rfl|rfl
  ·rw[a.z1 hz] at e;cases e
  ·rw[a.z2 hz] at e;cases e
theorem HA.mono {H':Hp} (a:HA C p dx pp pf pn pl fz H P h ve) (s:Same H H'):HA C p dx pp pf pn pl fz H' P h ve :=
 ⟨a.all.mono s,a.nd,a.en.mono s.ts,a.pg.by (OSame.of s) s.ts fun x hx=>.inl hx,a.fr⟩
theorem HA.wrote {l1 l2:List (Addr×HO)} {b:Addr} {o o':HO} {fz':List FZ} {h':HS} {ve':V} (a:HA C p dx pp pf pn pl fz H P h ve) (e1:ZdW C p dx pp pf pn pl fz h ve=l1++(b,o)::l2) (e2:ZdW C p dx pp pf pn pl fz' h' ve'=l1++(b,o')::l2)
  (en:Rep (upd H b o') (En.d h'.fin) ve') (fr:fz'.map (·.2)=h'.frames):HA C p dx pp pf pn pl fz' (upd H b o') P h' ve'/\OSame (ownA p pf pn pl fz) H (upd H b o'):=by
 have hnd:((l1++(b,o)::l2).map (·.1)).Nodup:=by rw[<-e1,Zb2];exact a.nd
 have hall:=a.all
 rw[e1] at hall
 have ho:ownA p pf pn pl fz'=ownA p pf pn pl fz:=by
  rw[<-Zb2 (C:=C) (dx:=dx) (pp:=pp) (h:=h') (ve:=ve'),<- Zb2 (C:=C) (dx:=dx) (pp:=pp) (h:=h) (ve:=ve),e1,e2]
  simp
 have hb:b∈ownA p pf pn pl fz:=by
  rw[<-Zb2 (C:=C) (dx:=dx) (pp:=pp) (h:=h) (ve:=ve),e1]
  simp
 have os:OSame (ownA p pf pn pl fz) H (upd H b o'):=OSame.wr hb
 refine ⟨⟨by rw[e2];exact hall.wr hnd,by rw[ho];exact a.nd,en,by rw[ho];exact a.pg.by os (os.ts a.notup) fun x hx=>.inl hx,fr⟩,os⟩
theorem HA.wrEn {b:Addr} {o':HO} (a:HA C p dx pp pf pn pl fz H P h ve) (m:b∈ownA p pf pn pl fz):Rep (upd H b o') (En.d h.fin) ve:=a.en.mono (OSame.ts (OSame.wr m) a.notup)
end
end L2
end
section
namespace L2
open PySem
theorem Zge {α:Type} {l:List α} {x:α}:atI (l++[x]) (-1)=some x:=by
 unfold atI ixN
 rw[if_neg (by lia),if_pos (by simp;lia)]
 simp
 rw[show (-1+((l.length:Int)+1)).toNat=l.length by lia]
 simp
theorem Zdp {ns:List Int} {p v:Int}:(ns.map V.int).set p.toNat (.int v)=(Zbz ns p v).map V.int:=by
 unfold Zbz
 rw[map_set]
section
variable {C p dx pp pf pn pl:Addr} {fz:List FZ} {z:FZ} {H:Hp} {P:List Df} {h:HS} {ve:V}
theorem Zel:ZdW C p dx pp pf pn pl (fz++[z]) h ve=([(p,HO.ins C dx (ZaY (.ref pp) (.ref pf) (.ref pn) (.int h.gone) (.ref pl) ve)),(pf,HO.lst ((fz++[z]).map fun z=>V.ref z.1.1)),(pn,HO.lst (h.news.map V.int)),(pl,HO.lst (h.left.map V.int))]++fz.flatMap ZbS)++[(z.1.1,HO.lst [.int z.2.1,.int z.2.2.1,.ref z.1.2]),(z.1.2,HO.lst (z.2.2.2.map V.int))]:=by
 simp[ZdW,ZbS]
theorem ZeN (m:z∈fz):z.1.1∈ownA p pf pn pl fz/\z.1.2∈ownA p pf pn pl fz:=by
 unfold ownA
 exact ⟨mem_append_right _ (mem_flatMap.mpr ⟨z,m,mem_cons_self⟩),mem_append_right _ (mem_flatMap.mpr ⟨z,m,mem_cons_of_mem _ mem_cons_self⟩)⟩
theorem HA.setBox (a:HA C p dx pp pf pn pl (fz++[z]) H P h ve) (bx:List Int) :
  HA C p dx pp pf pn pl (fz++[(z.1,(z.2.1,z.2.2.1,bx))]) (upd H z.1.2 (.lst (bx.map V.int))) P { h with frames:=fz.map (·.2)++[(z.2.1,z.2.2.1,bx)] } ve/\OSame (ownA p pf pn pl (fz++[z])) H (upd H z.1.2 (.lst (bx.map V.int))):=by
 refine a.wrote (l1:=([(p,HO.ins C dx (ZaY (.ref pp) (.ref pf) (.ref pn) (.int h.gone) (.ref pl) ve)),(pf,HO.lst ((fz++[z]).map fun z=>V.ref z.1.1)),(pn,HO.lst (h.news.map V.int)),(pl,HO.lst (h.left.map V.int))]++fz.flatMap ZbS)++[(z.1.1,HO.lst [.int z.2.1,.int z.2.2.1,.ref z.1.2])]) (l2:=[]) (o:=.lst (z.2.2.2.map V.int)) ?_ ?_ (a.wrEn (ZeN (by simp)).2) (by simp)
 ·rw[Zel];simp
 ·rw[Zel];simp
theorem HA.setRow (a:HA C p dx pp pf pn pl (fz++[z]) H P h ve) (n:Int) :
  HA C p dx pp pf pn pl (fz++[(z.1,(z.2.1,n,z.2.2.2))]) (upd H z.1.1 (.lst [.int z.2.1,.int n,.ref z.1.2])) P { h with frames:=fz.map (·.2)++[(z.2.1,n,z.2.2.2)] } ve/\OSame (ownA p pf pn pl (fz++[z])) H (upd H z.1.1 (.lst [.int z.2.1,.int n,.ref z.1.2])):=by
 refine a.wrote (l1:=[(p,HO.ins C dx (ZaY (.ref pp) (.ref pf) (.ref pn) (.int h.gone) (.ref pl) ve)),(pf,HO.lst ((fz++[z]).map fun z=>V.ref z.1.1)),(pn,HO.lst (h.news.map V.int)),(pl,HO.lst (h.left.map V.int))]++fz.flatMap ZbS) (l2:=[(z.1.2,HO.lst (z.2.2.2.map V.int))]) (o:=.lst [.int z.2.1,.int z.2.2.1,.ref z.1.2]) ?_ ?_ (a.wrEn (ZeN (by simp)).1) (by simp)
 ·rw[Zel]
 ·rw[Zel];simp
theorem HA.setNews (a:HA C p dx pp pf pn pl fz H P h ve) (ns:List Int):HA C p dx pp pf pn pl fz (upd H pn (.lst (ns.map V.int))) P { h with news:=ns } ve/\OSame (ownA p pf pn pl fz) H (upd H pn (.lst (ns.map V.int))) :=
 a.wrote (l1:=[_,_]) rfl rfl (a.wrEn (by simp[ownA])) a.fr
theorem HA.setLeft (a:HA C p dx pp pf pn pl fz H P h ve) (ns:List Int):HA C p dx pp pf pn pl fz (upd H pl (.lst (ns.map V.int))) P { h with left:=ns } ve/\OSame (ownA p pf pn pl fz) H (upd H pl (.lst (ns.map V.int))) :=
 a.wrote (l1:=[_,_,_]) rfl rfl (a.wrEn (by simp[ownA])) a.fr
theorem HA.setGone (a:HA C p dx pp pf pn pl fz H P h ve) (n:Int):HA C p dx pp pf pn pl fz (upd H p (.ins C dx (ZaY (.ref pp) (.ref pf) (.ref pn) (.int n) (.ref pl) ve))) P { h with gone:=n } ve/\OSame (ownA p pf pn pl fz) H (upd H p (.ins C dx (ZaY (.ref pp) (.ref pf) (.ref pn) (.int n) (.ref pl) ve))) :=
 a.wrote (l1:=[]) rfl rfl (a.wrEn (by simp[ownA])) a.fr
theorem HA.setEnd (a:HA C p dx pp pf pn pl fz H P h ve) {e:Option En} {v:V} (r:Rep H (En.d e) v):HA C p dx pp pf pn pl fz (upd H p (.ins C dx (ZaY (.ref pp) (.ref pf) (.ref pn) (.int h.gone) (.ref pl) v))) P { h with fin:=e } v/\OSame (ownA p pf pn pl fz) H (upd H p (.ins C dx (ZaY (.ref pp) (.ref pf) (.ref pn) (.int h.gone) (.ref pl) v))) :=
 a.wrote (l1:=[]) rfl rfl (r.mono (OSame.ts (OSame.wr (by simp[ownA])) a.notup)) a.fr
theorem PgAt.both {o1 o2 o3:List Addr} {H:Hp} {P:List Df} {pp:Addr} (a:PgAt o1 H P pp) (b:PgAt o2 H P pp) (m:∀ x∈o3,x∈o1\/x∈o2):PgAt o3 H P pp:=by
 obtain ⟨vs,h1,n1,hl,k1⟩:=a
 obtain ⟨vs',h1',n2,_,k2⟩:=b
 rw[h1] at h1'
 cases h1'
 refine ⟨vs,h1,fun z=>(m _ z).elim n1 n2,hl,fun i d v e1 e2=>?_⟩
 obtain ⟨t,q,ys,rfl,g1,g2,g3,g4⟩:=k1 i d v e1 e2
 obtain ⟨t',q',ys',e,g1',g2',g3',g4'⟩:=k2 i d _ e1 e2
 cases e
 rw[g1] at g1'
 cases g1'
 exact ⟨t,q,ys,rfl,g1,g2,fun z=>(m _ z).elim g3 g3',g4⟩
theorem Zbi {z:FZ}:ownA p pf pn pl (fz++[z])=ownA p pf pn pl fz++[z.1.1,z.1.2]:=by simp[ownA]
theorem HA.push (a:HA C p dx pp pf pn pl fz H P h ve) {fr bx:Addr} {f:Fr} (h1:H fr=some (.lst [.int f.1,.int f.2.1,.ref bx])) (h2:H bx=some (.lst (f.2.2.map V.int))) (n1:fr∉ownA p pf pn pl fz) (n2:bx∉ownA p pf pn pl fz) (n3:fr≠bx) (m1:PgAt [fr,bx] H P pp) :
  HA C p dx pp pf pn pl (fz++[((fr,bx),f)]) (upd H pf (.lst ((fz.map fun z=>V.ref z.1.1)++[.ref fr]))) P { h with frames:=h.frames++[f] } ve/\OSame (ownA p pf pn pl fz) H (upd H pf (.lst ((fz.map fun z=>V.ref z.1.1)++[.ref fr]))):=by
 have hpf:pf∈ownA p pf pn pl fz:=by simp[ownA]
 have os:OSame (ownA p pf pn pl fz) H (upd H pf (.lst ((fz.map fun z=>V.ref z.1.1)++[.ref fr]))):=OSame.wr hpf
 have hnd:((ZdW C p dx pp pf pn pl fz h ve).map (·.1)).Nodup:=by rw[Zb2];exact a.nd
 have hw:=AllAt.wr (l1:=[_]) (o':=.lst ((fz.map fun z=>V.ref z.1.1)++[.ref fr])) a.all hnd
 refine ⟨⟨?_,?_,a.wrEn hpf,?_,by simp[a.fr]⟩,os⟩
 ·have e:ZdW C p dx pp pf pn pl (fz++[((fr,bx),f)]) { h with frames:=h.frames++[f] } ve=([(p,HO.ins C dx (ZaY (.ref pp) (.ref pf) (.ref pn) (.int h.gone) (.ref pl) ve)),(pf,HO.lst ((fz.map fun z=>V.ref z.1.1)++[.ref fr])),(pn,HO.lst (h.news.map V.int)),(pl,HO.lst (h.left.map V.int))]++fz.flatMap ZbS)++ZbS ((fr,bx),f):=by
   simp[ZdW]
  rw[e]
  intro x hx
  rcases mem_append.mp hx with hx|hx
  ·exact hw x hx
  ·simp only[ZbS,mem_cons,not_mem_nil,or_false] at hx
   rcases hx with rfl|rfl
   ·exact os _ _ n1 h1
   ·exact os _ _ n2 h2
 ·rw[Zbi]
  refine nodup_append.mpr ⟨a.nd,by simp[n3],fun x hx y hy e=>?_⟩
  simp only[mem_cons,not_mem_nil,or_false] at hy
  subst e
  rcases hy with rfl|rfl
  ·exact n1 hx
  ·exact n2 hx
 ·have nt:ZeA [fr,bx] H:=fun x hx xs e=>by
   simp only[mem_cons,not_mem_nil,or_false] at hx
   rcases hx with rfl|rfl
   ·rw[h1] at e;cases e
   ·rw[h2] at e;cases e
  have q1:PgAt (ownA p pf pn pl fz) _ P pp:=a.pg.by os (os.ts a.notup) fun x hx=>.inl hx
  have q2:PgAt [fr,bx] (upd H pf (.lst ((fz.map fun z=>V.ref z.1.1)++[.ref fr]))) P pp:=by
   obtain ⟨vs,g1,g2,gl,gk⟩:=PgAt.both (o3:=[fr,bx]++ownA p pf pn pl fz) m1 a.pg (fun x hx=>mem_append.mp hx)
   have w:=PgAt.by (own':=[fr,bx]++ownA p pf pn pl fz) (H':=upd H pf (.lst ((fz.map fun z=>V.ref z.1.1)++[.ref fr]))) ⟨vs,g1,g2,gl,gk⟩ (fun x o n e=>os x o (fun z=>n (mem_append_right _ z)) e) (os.ts a.notup) fun x hx=>.inl hx
   exact PgAt.both w w fun x hx=>.inl (mem_append_left _ hx)
  exact PgAt.both q1 q2 fun x hx=>by rw[Zbi] at hx;exact mem_append.mp hx
theorem HA.pop (a:HA C p dx pp pf pn pl (fz++[z]) H P h ve):HA C p dx pp pf pn pl fz (upd H pf (.lst (fz.map fun z=>V.ref z.1.1))) P { h with frames:=fz.map (·.2) } ve/\OSame (ownA p pf pn pl (fz++[z])) H (upd H pf (.lst (fz.map fun z=>V.ref z.1.1))):=by
 have hpf:pf∈ownA p pf pn pl (fz++[z]):=by simp[ownA]
 have os:OSame (ownA p pf pn pl (fz++[z])) H (upd H pf (.lst (fz.map fun z=>V.ref z.1.1))):=OSame.wr hpf
 have hnd:((ZdW C p dx pp pf pn pl (fz++[z]) h ve).map (·.1)).Nodup:=by rw[Zb2];exact a.nd
 have hw:=AllAt.wr (l1:=[_]) (o':=.lst (fz.map fun z=>V.ref z.1.1)) a.all hnd
 refine ⟨⟨fun x hx=>hw x ?_,?_,a.wrEn hpf,a.pg.by os (os.ts a.notup) (fun x hx=>.inl (by rw[Zbi];exact mem_append_left _ hx)),rfl⟩,os⟩
 ·have e:([(p,HO.ins C dx (ZaY (.ref pp) (.ref pf) (.ref pn) (.int h.gone) (.ref pl) ve)),(pf,HO.lst (fz.map fun z=>V.ref z.1.1)),(pn,HO.lst (h.news.map V.int)),(pl,HO.lst (h.left.map V.int))]++(fz++[z]).flatMap ZbS)=ZdW C p dx pp pf pn pl fz { h with frames:=fz.map (·.2) } ve++ZbS z:=by
   simp[ZdW]
  show x∈([(p,HO.ins C dx (ZaY (.ref pp) (.ref pf) (.ref pn) (.int h.gone) (.ref pl) ve)),(pf,HO.lst (fz.map fun z=>V.ref z.1.1)),(pn,HO.lst (h.news.map V.int)),(pl,HO.lst (h.left.map V.int))]++(fz++[z]).flatMap ZbS)
  rw[e]
  exact mem_append_left _ hx
 ·have:=a.nd
  rw[Zbi] at this
  exact (nodup_append.mp this).1
end
end L2
end
section
namespace L2
open PySem
section
variable {P:List Df} {h:HS}
theorem FrOk.later {g g':Int} {fr:Fr} (a:FrOk P g fr) (h:g<=g'):FrOk P g' fr :=
 ⟨a.ex,fun x hx=>Nat.le_trans (a.small x hx) (Nat.mul_le_mul_left _ (Nat.pow_le_pow_right (by decide) (by lia)))⟩
theorem Zle {g:Int} (g0:0<=g):10 ^ 60 * 100 ^ (g+1).toNat=100 * (10 ^ 60 * 100 ^ g.toNat):=by
 rw[show (g+1).toNat=g.toNat+1 by lia,Nat.pow_succ]
 lia
theorem ZmO {g:Int}:10 ^ 60<=10 ^ 60 * 100 ^ g.toNat:=Nat.le_mul_of_pos_right _ (Nat.pow_pos (by decide))
theorem Zca {bx:List Int} {B:Nat} (h:∀ x∈bx,x.natAbs<=B) (p:Int):(ZaL bx p).natAbs<=B:=by
 unfold ZaL
 rw[getD_eq_getElem?_getD]
 cases e:bx[p.toNat]? with
 | none=>simp
 | some v=>exact h v (mem_of_getElem? e)
theorem ZeX {bx:List Int} {B:Nat} {p v:Int} (h:∀ x∈bx,x.natAbs<=B) (hv:v.natAbs<=B):∀ x∈Zbz bx p v,x.natAbs<=B:=fun x hx=>by
 rcases mem_or_eq_of_mem_set hx with q|q
 ·exact h x q
 ·rw[q];exact hv
theorem Zhe {bx:List Int} {p v:Int}:(Zbz bx p v).length=bx.length:=by unfold Zbz;simp
theorem goEq {fs:List Fr} {fr:Fr} {r:Rw} (e0:h.fin=none) (e1:h.frames=fs++[fr]) (e2:ZbL P fr.1 fr.2.1=some r) :
  h.go P=match ZbO h fr r with
   | some e=>{ h with fin:=some e }
   | none=>{ h with frames:=(eff P fs fr h.left h.news r).1,left:=(eff P fs fr h.left h.news r).2.1,news:=(eff P fs fr h.left h.news r).2.2,gone:=h.gone+1 }:=by
 unfold HS.go
 rw[e0,e1]
 simp only[getLast?_append,getLast?_singleton,Option.some_or,e2,dropLast_concat]
 all_goals (cases ZbO h fr r <;> rfl)
theorem ZcO {d:Df} (D:DfOk P d) {at':Int} {r:Rw} (a0:0<=at') (er:d.rows[at'.toNat]?=some r) (nl:¬ r.last):In0 (at'+1) d.rows.length:=by
 have hlt:=(List.getElem?_eq_some_iff.mp er).1
 refine ⟨by lia,?_⟩
 obtain ⟨r',e',l'⟩:=D.last
 by_cases h:at'.toNat=d.rows.length - 1
 ·rw[h] at er
  rw[er] at e'
  cases e'
  exact absurd l' nl
 ·lia
structure OwnR (d:Df) (bx left news:List Int) (B:Nat) (n:Int) (t:List Int×List Int×List Int):Prop where
 nx:In0 n d.rows.length
 ln:t.1.length=bx.length
 sm:∀ x∈t.1,x.natAbs<=100 * B
 lf:∀ x∈t.2.1,x∈left
 sz:t.2.1.length+t.2.2.length<=left.length+news.length+1
theorem Zmh {d:Df} (D:DfOk P d) {at':Int} {r:Rw} {bx left news:List Int} {B:Nat} (a0:0<=at') (er:d.rows[at'.toNat]?=some r) (hB:10 ^ 60<=B) (hb:∀ x∈bx,x.natAbs<=B) (hl:∀ x∈left,x.natAbs<=10 ^ 60)
  (nb:∀ p,r≠.back p) (nc:∀ p f qs,r≠.call p f qs):OwnR d bx left news B (r.next bx at') (r.own3 bx left news):=by
 have ok:=D.rows r (mem_of_getElem? er)
 have hb2:∀ x∈bx,x.natAbs<=100 * B:=fun x hx=>by have:=hb x hx;lia
 have same:∀ n,In0 n d.rows.length->OwnR d bx left news B n (bx,left,news):=fun n hn=>⟨hn,rfl,hb2,fun _ h=>h,by simp⟩
 have set1:∀ n p v,In0 n d.rows.length->v.natAbs<=100 * B->OwnR d bx left news B n (Zbz bx p v,left,news):=fun n p v hn hv=>⟨hn,Zhe,ZeX hb2 hv,fun _ h=>h,by simp⟩
 cases r with
 | put p n=>exact set1 _ p n (ZcO D a0 er id) (by have:=ok.2;lia)
 | copy p q=>exact set1 _ p _ (ZcO D a0 er id) (by have:=Zca hb q;lia)
 | plus p q r=>exact set1 _ p _ (ZcO D a0 er id) (by have:=Zca hb q;have:=Zca hb r;lia)
 | less p q r=>exact set1 _ p _ (ZcO D a0 er id) (by have:=Zca hb q;have:=Zca hb r;lia)
 | times p q n =>
  refine set1 _ p _ (ZcO D a0 er id) ?_
  have h1:=Zca hb q
  have h2:=ok.2.2
  rw[Int.natAbs_mul]
  calc _<=B * 99:=Nat.mul_le_mul h1 h2
   _<=100 * B:=by lia
 | take p =>
  refine ⟨ZcO D a0 er id,Zhe,ZeX hb2 ?_,fun x hx=>mem_of_mem_tail hx,?_⟩
  ·cases left with
   | nil=>simp
   | cons x l=>have:=hl x mem_cons_self;simp;lia
  ·simp only[Rw.own3,length_tail];lia
 | tell p=>exact ⟨ZcO D a0 er id,rfl,hb2,fun _ h=>h,by simp[Rw.own3];lia⟩
 | jump t=>exact same _ ok
 | zero p t =>
  refine same _ ?_
  simp only[Rw.next]
  split
  ·exact ok.2
  ·exact ZcO D a0 er id
 | below p t =>
  refine same _ ?_
  simp only[Rw.next]
  split
  ·exact ok.2
  ·exact ZcO D a0 er id
 | call p f qs=>exact absurd rfl (nc p f qs)
 | back p=>exact absurd rfl (nb p)
theorem ZlD (PO:PgOk P) {g gn:Int} {d:Df} {ns:List Int} (g0:0<=g) (ed:P[g.toNat]?=some d) (hn:(ns.length:Int)<=d.boxes) (hs:∀ x∈ns,x.natAbs<=10 ^ 60 * 100 ^ gn.toNat):FrOk P gn (Zb9 P g ns):=by
 have D:=PO.2.2 d (mem_of_getElem? ed)
 have hb:ZbT P g=d.boxes:=by unfold ZbT;rw[ed];rfl
 obtain ⟨r',e',_⟩:=D.last
 have hlt:=(List.getElem?_eq_some_iff.mp e').1
 have b:=D.b
 refine ⟨⟨d,g0,ed,⟨Int.le_refl _,by show (0:Int) < _;lia⟩,?_⟩,fun x hx=>?_⟩
 ·simp only[Zb9,hb,length_append,length_replicate]
  lia
 ·rcases mem_append.mp hx with h|h
  ·exact hs x h
  ·rw[eq_of_mem_replicate h];simp
theorem HsOk.go (PO:PgOk P) (a:HsOk P h):HsOk P (h.go P):=by
 cases hf:h.fin with
 | some e =>
  have e2:h.go P=h:=by unfold HS.go;rw[hf]
  rw[e2];exact a
 | none =>
  obtain ⟨fs,fr,hfr⟩:∃ fs fr,h.frames=fs++[fr]:=by
   rcases eq_nil_or_concat h.frames with e|⟨l,x,e⟩
   ·exact absurd e a.ne
   ·exact ⟨l,x,by simpa using e⟩
  have FO:=a.fr fr (by rw[hfr];simp)
  obtain ⟨d,f0,ed,hat,hbx⟩:=FO.ex
  have D:=PO.2.2 d (mem_of_getElem? ed)
  have hlt:fr.2.1.toNat < d.rows.length:=by have:=hat.1;have:=hat.2;lia
  have er:d.rows[fr.2.1.toNat]?=some d.rows[fr.2.1.toNat]:=getElem?_eq_getElem hlt
  generalize d.rows[fr.2.1.toNat]=r at er
  have hra:ZbL P fr.1 fr.2.1=some r:=by unfold ZbL;rw[ed];exact er
  have ok:=D.rows r (mem_of_getElem? er)
  rw[goEq hf hfr hra]
  cases he:ZbO h fr r with
  | some e=>exact show HsOk P { h with fin:=some e } from ⟨a.ne,a.few,a.fr,a.wait,a.left,a.gone,a.sz⟩
  | none =>
   have few:=a.few
   rw[hfr] at few
   have g0:=a.gone
   have gs:(h.gone+1).toNat=h.gone.toNat+1:=by lia
   have later:∀ x∈fs,FrOk P (h.gone+1) x:=fun x hx=>(a.fr x (by rw[hfr];simp[hx])).later (by lia)
   have bs:=Zle g0
   have wt:∀ (i:Nat) (x:Fr),fs[i]?=some x->∃ p f qs,ZbL P x.1 x.2.1=some (.call p f qs):=fun i x e=>a.wait i x (by rw[hfr,getElem?_append_left (List.getElem?_eq_some_iff.mp e).1];exact e) (by rw[hfr];have:=(List.getElem?_eq_some_iff.mp e).1;simp;lia)
   have wt2:∀ (y:Fr) i x,(fs++[y])[i]?=some x->i+1 < (fs++[y]).length->∃ p f qs,ZbL P x.1 x.2.1=some (.call p f qs):=fun y i x e hi=>by
    simp at hi
    rw[getElem?_append_left hi] at e
    exact wt i x e
   by_cases hc:∃ p f qs,r=.call p f qs
   ·obtain ⟨p,g,qs,rfl⟩:=hc
    obtain ⟨_,⟨d2,q0,ed2,hq⟩,_⟩:=ok
    have D2:=PO.2.2 d2 (mem_of_getElem? ed2)
    have hn:¬ 20<=h.frames.length:=fun z=>by simp[ZbO,z] at he
    rw[hfr] at hn
    refine ⟨by simp[eff],by simp[eff] at hn ⊢;lia,fun x hx=>?_,fun i x e hi=>?_,a.left,by show 0<=h.gone+1;lia,by have:=a.sz;show _<=100000+(h.gone+1).toNat;simp only[eff];lia⟩
    ·simp only[eff,mem_append,mem_cons,not_mem_nil,or_false] at hx
     rcases hx with hx|rfl|rfl
     ·exact later x hx
     ·exact FO.later (by show h.gone<=h.gone+1;lia)
     ·refine ZlD PO q0 ed2 (by have:=D2.t;simp;lia) fun x hx=>?_
      obtain ⟨q,_,rfl⟩:=mem_map.mp hx
      have:=Zca FO.small q
      show _<=10 ^ 60 * 100 ^ (h.gone+1).toNat
      rw[bs]
      lia
    ·simp only[eff] at e hi
     have e':((fs++[fr])++[Zb9 P g (qs.map (ZaL fr.2.2))])[i]?=some x:=by simpa using e
     rw[getElem?_append_left (by simp at hi ⊢;lia)] at e'
     rcases Nat.lt_or_ge i fs.length with hlt|hge
     ·rw[getElem?_append_left hlt] at e'
      exact wt i x e'
     ·have:i=fs.length:=by simp at hi;lia
      subst this
      rw[getElem?_concat_length] at e'
      cases e'
      exact ⟨p,g,qs,hra⟩
   ·by_cases hb:∃ p,r=.back p
    ·obtain ⟨p,rfl⟩:=hb
     have hn:h.frames.length≠1:=fun z=>by simp[ZbO,z] at he
     rw[hfr] at hn
     obtain ⟨fs',w,hw⟩:∃ fs' w,fs=fs'++[w]:=by
      rcases eq_nil_or_concat fs with e|⟨l,x,e⟩
      ·subst e;simp at hn
      ·exact ⟨l,x,by simpa using e⟩
     subst hw
     obtain ⟨p2,g,qs,hrw⟩:=wt fs'.length w (by simp)
     have FW:=a.fr w (by rw[hfr];simp)
     obtain ⟨dw,w0,ew,wat,wbx⟩:=FW.ex
     have erw:dw.rows[w.2.1.toNat]?=some (.call p2 g qs):=by
      unfold ZbL at hrw;rw[ew] at hrw;exact hrw
     have DW:=PO.2.2 dw (mem_of_getElem? ew)
     have heff:eff P (fs'++[w]) fr h.left h.news (.back p)=(fs'++[(w.1,w.2.1+1,Zbz w.2.2 p2 (ZaL fr.2.2 p))],h.left,h.news):=by
      simp only[eff,getLast?_append,getLast?_singleton,Option.some_or,hrw,dropLast_concat]
     rw[heff]
     dsimp only
     refine ⟨by simp,by simp at few ⊢;lia,fun x hx=>?_,fun i x e hi=>?_,a.left,by show 0<=h.gone+1;lia,by have:=a.sz;show h.left.length+h.news.length<=100000+(h.gone+1).toNat;lia⟩
     ·rcases mem_append.mp hx with hx|hx
      ·exact later x (by simp[hx])
      ·rw[mem_singleton.mp hx]
       have h1:=FO.later (g':=h.gone+1) (by lia)
       have h2:=FW.later (g':=h.gone+1) (by lia)
       exact ⟨⟨dw,w0,ew,ZcO DW wat.1 erw id,by show ((Zbz w.2.2 p2 _).length:Int)=_;rw[Zhe];exact wbx⟩,ZeX h2.small (Zca h1.small p)⟩
     ·simp at hi
      rw[getElem?_append_left hi] at e
      exact wt i x (by rw[getElem?_append_left hi];exact e)
    ·have hO:=Zmh (left:=h.left) (news:=h.news) D hat.1 er ZmO FO.small a.left (fun p z=>hb ⟨p,z⟩) fun p f qs z=>hc ⟨p,f,qs,z⟩
     have heff:eff P fs fr h.left h.news r=(fs++[(fr.1,r.next fr.2.2 fr.2.1,(r.own3 fr.2.2 h.left h.news).1)],(r.own3 fr.2.2 h.left h.news).2.1,(r.own3 fr.2.2 h.left h.news).2.2):=by
      cases r <;> first|rfl|exact absurd ⟨_,rfl⟩ hb|exact absurd ⟨_,_,_,rfl⟩ hc
     rw[heff]
     dsimp only
     refine ⟨by simp,by simpa using few,fun x hx=>?_,fun i x e hi=>wt2 _ i x e hi,fun x hx=>a.left x (hO.lf x hx),by show 0<=h.gone+1;lia,?_⟩
     ·rcases mem_append.mp hx with hx|hx
      ·exact later x hx
      ·rw[mem_singleton.mp hx]
       exact ⟨⟨d,f0,ed,hO.nx,by show (((r.own3 fr.2.2 h.left h.news).1).length:Int)=_;rw[hO.ln];exact hbx⟩,fun y hy=>by
        show _<=10 ^ 60 * 100 ^ (h.gone+1).toNat
        rw[bs];exact hO.sm y hy⟩
     ·have h1:=hO.sz
      have h2:=a.sz
      show _<=100000+(h.gone+1).toNat
      dsimp only
      lia
end
end L2
end
section
namespace L2
open PySem
section
variable {kp own:List Addr} {H0 H H':Hp}
theorem apart {own own' oth:List Addr} (new:∀ x∈own',x∈own\/H x=none) (d:∀ x∈oth,x∉own) (al:∀ x∈oth,H x≠none):∀ x∈oth,x∉own':=fun x hx m=>by
 rcases new x m with h|h
 ·exact d x hx h
 ·exact al x hx h
end
end L2
end
section
namespace L2
open PySem PySem.Spec PyProof.Rows
def Seqs (H:Hp) (x y:V) (xs ys:List V):Prop:=∃ a b,x=.ref a/\y=.ref b/\((H a=some (.tup xs)/\H b=some (.tup ys))\/(H a=some (.lst xs)/\H b=some (.lst ys)))
def simV:V->Prop
 | .byt _=>False
 | .flt _=>False
 | .ty _=>False
 | _=>True
def Alike (H:Hp):Nat->V->V->Prop
 | 0,x,y=>x=y/\simV x
 | n+1,x,y=>(x=y/\simV x)\/∃ xs ys,Seqs H x y xs ys/\xs.length=ys.length/\∀ (j:Nat) (u v:V),xs[j]?=some u->ys[j]?=some v->Alike H n u v
theorem Alike.up {H : Hp} : ∀ {n : Nat} {x y : V}, Alike H n x y -> Alike H (n + 1) x y
  | 0, x, y, h => .inl h
  | n + 1, x, y, h => by
    rcases h with h|⟨xs,ys,s,l,k⟩
    · exact .inl h
    · exact .inr ⟨xs, ys, s, l, fun j u v e1 e2 => (k j u v e1 e2).up⟩
theorem Alike.le {H:Hp} {n m:Nat} {x y:V} (h:Alike H n x y) (l:n<=m):Alike H m x y:=by
  induction m with
  | zero => obtain rfl : n = 0 := by lia
            exact h
  | succ m ih =>
    by_cases e:n=m+1
    · subst e; exact h
    · exact (ih (by lia)).up
theorem Alike.refl {H:Hp} (n:Nat) {x:V} (f:simV x):Alike H n x x:=Alike.le (n:=0) ⟨rfl,f⟩ (Nat.zero_le _)
section
variable {X:Cx} {pins:List (Addr×Obj)} {σ:St} {H:Hp} {s:Shared}
theorem Zcw {xs:List V} {its:List Value} (vx:Vals xs its) {j:Nat} (h:j < its.toArray.size):∃ x,xs[j]?=some x/\RelV x its.toArray[j]:=by
 have l1:=vx.length
 have h':j < its.length:=by simpa using h
 have e1:xs[j]?=some (xs[j]'(by lia)):=getElem?_eq_getElem _
 obtain ⟨u1,z1,w1⟩:=vx.get e1
 have y1:its.toArray[j]=u1:=by
  have:its[j]?=some its[j]:=getElem?_eq_getElem h'
  rw[z1] at this
  simpa using (Option.some.inj this).symm
 exact ⟨_,e1,by rw[y1];exact w1⟩
theorem Zgy (I:Inv X pins σ H s) {A:Around} {a b:Addr} {xs ys:List V} (h:(H a=some (.tup xs)/\H b=some (.tup ys))\/(H a=some (.lst xs)/\H b=some (.lst ys))) (hl:xs.length=ys.length) (hu:A.units < cLine)
  (k:∀ (j:Nat) (u v:V) (u' v':Value),xs[j]?=some u->ys[j]?=some v->RelV u u'->RelV v v'->SeqAt.EqAt A.in1 s u' v' true):SeqAt.RcAt A s (.ref a) (.ref b) true:=by
 rcases h with ⟨ha,hb⟩|⟨ha,hb⟩
 ·obtain ⟨its,vx,ht⟩:=I.isTup ha
  obtain ⟨its',vy,ht'⟩:=I.isTup hb
  have l1:=vx.length
  have l2:=vy.length
  have key:=SeqAt.RcAt.tuples (A:=A) (e:=fun _=>true) ht ht' hu fun j j1 j2=>by
   obtain ⟨x,e1,r1⟩:=Zcw vx j1
   obtain ⟨y,e2,r2⟩:=Zcw vy j2
   exact k j x y _ _ e1 e2 r1 r2
  have e:((List.range (min its.toArray.size its'.toArray.size)).all (fun _=>true) && its.toArray.size == its'.toArray.size)=true:=by
   simp;lia
  rw[e] at key
  exact key
 ·obtain ⟨its,vx,ht,_⟩:=I.list (SqL.of ha)
  obtain ⟨its',vy,ht',_⟩:=I.list (SqL.of hb)
  have l1:=vx.length
  have l2:=vy.length
  have key:=SeqAt.RcAt.lists (A:=A) (e:=fun _=>true) ht.isList ht'.isList (by simp;lia) hu fun j j1 j2=>by
   obtain ⟨x,e1,r1⟩:=Zcw vx j1
   obtain ⟨y,e2,r2⟩:=Zcw vy j2
   exact k j x y _ _ e1 e2 r1 r2
  have e:(List.range its.toArray.size).all (fun _=>true)=true:=by simp
  rw[e] at key
  exact key
theorem Zfz (I:Inv X pins σ H s):∀ (n:Nat) {x y:V} {u v:Value} {A:Around},Alike H n x y->RelV x u->RelV y v->A.units+n < cLine->SeqAt.EqAt A s u v true:=by
 have flat:∀ {x:V} {u v:Value} {A:Around},simV x->RelV x u->RelV x v->SeqAt.EqAt A s u v true:=by
  intro x u v A f ru rv
  cases x with
  | non=>cases ru;cases rv;exact SeqAt.EqAt.same _
  | bl b=>cases ru;cases rv;exact SeqAt.EqAt.same _
  | int i =>
   obtain ⟨t,rfl⟩:=ru;obtain ⟨t',rfl⟩:=rv
   have:=SeqAt.EqAt.int_int (A:=A) (s:=s) i t i t'
   simpa using this
  | str i =>
   obtain ⟨t,rfl⟩:=ru;obtain ⟨t',rfl⟩:=rv
   have:=SeqAt.EqAt.str_str (A:=A) (s:=s) i t i t'
   simpa using this
  | ref a=>cases ru;cases rv;exact SeqAt.EqAt.same _
  | _=>cases f
 intro n
 induction n with
 | zero =>
  rintro x y u v A ⟨rfl,f⟩ ru rv hu
  exact flat f ru rv
 | succ n ih =>
  rintro x y u v A h ru rv hu
  rcases h with ⟨rfl,f⟩|⟨xs,ys,⟨a,b,rfl,rfl,h⟩,hl,k⟩
  ·exact flat f ru rv
  ·cases ru;cases rv
   by_cases hab:a=b
   ·subst hab;exact SeqAt.EqAt.same _
   ·exact SeqAt.EqAt.of_refs hab (Zgy I h hl (by lia) fun j u v u' v' e1 e2 r1 r2=>ih (k j u v e1 e2) r1 r2 (by show A.units+1+n < cLine;lia))
def rEqA:R2:=fun x y H Q=>∃ xs ys,Seqs H x y xs ys/\xs.length=ys.length/\(∀ (j:Nat) (u v:V),xs[j]?=some u->ys[j]?=some v->Alike H 40 u v)/\Q (.bl true) H
def rNeA:R2:=fun x y H Q=>∃ xs ys,Seqs H x y xs ys/\xs.length=ys.length/\(∀ (j:Nat) (u v:V),xs[j]?=some u->ys[j]?=some v->Alike H 40 u v)/\Q (.bl false) H
theorem op_eqA (hu:X.A.units+64 < cLine):OpR X (compareOp .Eq) rEqA:=by
 rintro pins s σ H x y v u Q I rx ry ⟨xs,ys,⟨a,b,rfl,rfl,h⟩,hl,k,q⟩
 cases rx;cases ry
 have key:=Zgy (A:=X.A) I h hl (by lia) fun j u v u' v' e1 e2 r1 r2=>Zfz I 40 (k j u v e1 e2) r1 r2 (by show X.A.units+1+40 < cLine;lia)
 exact key _ _ _ _ (ZaV I q rfl)
theorem op_neA (hu:X.A.units+64 < cLine):OpR X (compareOp .NotEq) rNeA:=by
 rintro pins s σ H x y v u Q I rx ry ⟨xs,ys,⟨a,b,rfl,rfl,h⟩,hl,k,q⟩
 cases rx;cases ry
 have kk:∀ (j:Nat) (u v:V) (u' v':Value),xs[j]?=some u->ys[j]?=some v->RelV u u'->RelV v v'->SeqAt.EqAt X.A.in1 s u' v' true:=fun j u v u' v' e1 e2 r1 r2=>Zfz I 40 (k j u v e1 e2) r1 r2 (by show X.A.units+1+40 < cLine;lia)
 rcases h with ⟨ha,hb⟩|⟨ha,hb⟩
 ·obtain ⟨its,vx,ht⟩:=I.isTup ha
  obtain ⟨its',vy,ht'⟩:=I.isTup hb
  have l1:=vx.length
  have l2:=vy.length
  refine SeqAt.RcNeAt.tuples (e:=fun _=>true) ht ht' (by lia) (fun j j1 j2=>?_) _ _ _ _ (ZaV I q ?_)
  ·obtain ⟨x,e1,r1⟩:=Zcw vx j1
   obtain ⟨y,e2,r2⟩:=Zcw vy j2
   exact kk j x y _ _ e1 e2 r1 r2
  ·simp;lia
 ·obtain ⟨its,vx,ht,_⟩:=I.list (SqL.of ha)
  obtain ⟨its',vy,ht',_⟩:=I.list (SqL.of hb)
  have l1:=vx.length
  have l2:=vy.length
  refine SeqAt.RcNeAt.lists (e:=fun _=>true) ht.isList ht'.isList (by simp;lia) (by lia) (fun j j1 j2=>?_) _ _ _ _ (ZaV I q ?_)
  ·obtain ⟨x,e1,r1⟩:=Zcw vx j1
   obtain ⟨y,e2,r2⟩:=Zcw vy j2
   exact kk j x y _ _ e1 e2 r1 r2
  ·simp
end
section
variable {H:Hp}
mutual
theorem Zh1 : ∀ {d : D} {x y : V}, Rep H d x -> Rep H d y -> Alike H d.dep x y
  | .non, x, y, h, h' => by rw[Rep] at h h'; subst h; subst h'; exact ⟨rfl, trivial⟩
  | .bl _, x, y, h, h' => by rw[Rep] at h h'; subst h; subst h'; exact ⟨rfl, trivial⟩
  | .int _, x, y, h, h' => by rw[Rep] at h h'; subst h; subst h'; exact ⟨rfl, trivial⟩
  | .str _, x, y, h, h' => by rw[Rep] at h h'; subst h; subst h'; exact ⟨rfl, trivial⟩
  | .tup ds, x, y, h, h' => by
    obtain ⟨a,xs,rfl,ha,r⟩:=ZaG h
    obtain ⟨b,ys,rfl,hb,r'⟩:=ZaG h'
    rw[D.dep]
    exact .inr ⟨xs, ys, ⟨a, b, rfl, rfl, .inl ⟨ha, hb⟩⟩, by rw[<- r.length, <- r'.length], fun j u v e1 e2 => Zgv r r' j u v e1 e2⟩
theorem Zgv : ∀ {ds : List D} {xs ys : List V}, Reps H ds xs -> Reps H ds ys -> ∀ (j : Nat) (u v : V), xs[j]? = some u -> ys[j]? = some v -> Alike H (D.deps ds) u v
  | [], xs, ys, h, h', j, u, v, e1, e2 => by rw[ZaD h] at e1; simp at e1
  | d :: ds, xs, ys, h, h', j, u, v, e1, e2 => by
    obtain ⟨x,r,rfl,h1,h2⟩:=Zaj h
    obtain ⟨y,r',rfl,h1',h2'⟩:=Zaj h'
    cases j with
    | zero =>
      simp at e1 e2;subst e1;subst e2
      exact (Zh1 h1 h1').le (by rw[D.deps];lia)
    | succ j => exact (Zgv h2 h2' j u v (by simpa using e1) (by simpa using e2)).le (by rw[D.deps]; lia)
end
theorem Zkl {n:Nat} {d:D} {x y:V} (h:Rep H d x) (h':Rep H d y) (l:d.dep<=n):Alike H n x y:=(Zh1 h h').le l
def AlikeS (H:Hp) (n:Nat) (x y:V):Prop:=∃ xs ys,Seqs H x y xs ys/\xs.length=ys.length/\∀ (j:Nat) (u v:V),xs[j]?=some u->ys[j]?=some v->Alike H n u v
theorem AlikeS.al {n:Nat} {x y:V} (h:AlikeS H n x y):Alike H (n+1) x y:=.inr h
theorem Zeq {n:Nat} {a b:Addr} {xs ys:List V} (ha:H a=some (.lst xs)) (hb:H b=some (.lst ys)) (hl:xs.length=ys.length) (k:∀ (j:Nat) (u v:V),xs[j]?=some u->ys[j]?=some v->Alike H n u v):AlikeS H n (.ref a) (.ref b):=⟨xs,ys,⟨a,b,rfl,rfl,.inr ⟨ha,hb⟩⟩,hl,k⟩
theorem Zez {n:Nat} {a b:Addr} {ns:List Int} (ha:H a=some (.lst (ns.map V.int))) (hb:H b=some (.lst (ns.map V.int))):AlikeS H n (.ref a) (.ref b):=Zeq ha hb rfl fun j u v e1 e2=>by
 rw[e1] at e2;cases e2
 rw[getElem?_map] at e1
 obtain ⟨i,_,rfl⟩:=Option.map_eq_some_iff.mp e1
 exact Alike.refl _ trivial
theorem ZlL {n:Nat}:∀ (j:Nat) (u v:V),([]:List V)[j]?=some u->([]:List V)[j]?=some v->Alike H n u v:=fun j u v e _=>by simp at e
theorem Zdt {n:Nat} {x y:V} {xs ys:List V} (h:Alike H n x y) (t:∀ (j:Nat) (u v:V),xs[j]?=some u->ys[j]?=some v->Alike H n u v):∀ (j:Nat) (u v:V),(x::xs)[j]?=some u->(y::ys)[j]?=some v->Alike H n u v
 | 0,u,v,e1,e2=>by simp at e1 e2;subst e1;subst e2;exact h
 | j+1,u,v,e1,e2=>t j u v (by simpa using e1) (by simpa using e2)
theorem rd_eqA {x y:V} {Q:VK} (h:AlikeS H 40 x y) (q:Q (.bl true) H):rEqA x y H Q:=by
 obtain ⟨xs,ys,s,l,k⟩:=h
 exact ⟨xs,ys,s,l,k,q⟩
theorem rd_neA {x y:V} {Q:VK} (h:AlikeS H 40 x y) (q:Q (.bl false) H):rNeA x y H Q:=by
 obtain ⟨xs,ys,s,l,k⟩:=h
 exact ⟨xs,ys,s,l,k,q⟩
end
end L2
end
section
namespace L2
open PySem
abbrev NewL (xs:List V) (H:Hp) (Q:VK):Prop:=xs.length<=sizeLine/\∀ p,H p=none->Q (.ref p) (upd H p (.lst xs))
abbrev NewT (xs:List V) (H:Hp) (Q:VK):Prop:=xs.length<=sizeLine/\∀ p,H p=none->Q (.ref p) (upd H p (.tup xs))
theorem ZlY {ta:TA} {σ:St} {H:Hp} {Q:VK} (h:ta σ H fun xs H1=>NewL xs H1 Q):tLst ta σ H Q:=h
theorem ZlU {ta:TA} {σ:St} {H:Hp} {Q:VK} (h:ta σ H fun xs H1=>NewT xs H1 Q):tTup ta σ H Q:=h
structure WC (ow:List Addr) (H0 H:Hp) (L:List (Addr×HO)) (R:List (List D×List V)):Prop where
 os:OSame ow H0 H
 ts:TSame H0 H
 all:AllAt H L
 nd:(L.map (·.1)).Nodup
 nw:∀ x∈L.map (·.1),H0 x=none
 nt:∀ x∈L,∀ xs,x.2≠.tup xs
 rp:∀ e∈R,Reps H e.1 e.2
 al:∀ x∈ow,H x≠none
section
variable {ow:List Addr} {H0 H H':Hp} {L L' l1 l2:List (Addr×HO)} {R R':List (List D×List V)} {Q:VK} {a q:Addr} {o:HO} {xs ys vs:List V} {ds:List D} {d:D} {v:V}
theorem WC.start (al:∀ x∈ow,H x≠none):WC ow H H [] []:=⟨fun _ _ _ h=>h,TSame.refl _,fun _ h=>(by cases h),by simp,fun _ h=>(by cases h),fun _ h=>(by cases h),fun _ h=>(by cases h),al⟩
theorem WC.same (w:WC ow H0 H L R) (s:Same H H'):WC ow H0 H' L R :=
 ⟨fun a o n h=>s _ _ (w.os a o n h),w.ts.trans s.ts,w.all.mono s,w.nd,w.nw,w.nt,fun e he=>(w.rp e he).mono s.ts,fun x hx e=>by
  cases h:H x with
  | none=>exact w.al x hx h
  | some o=>rw[s _ _ h] at e;cases e⟩
theorem WC.free (w:WC ow H0 H L R) (h:H a=none):H0 a=none:=by
 cases e:H0 a with
 | none=>rfl
 | some o =>
  by_cases m:a∈ow
  ·exact absurd h (w.al a m)
  ·rw[w.os a o m e] at h;cases h
theorem WC.mem (w:WC ow H0 H L R) (h:H a=none):a∉L.map (·.1):=fun m=>by
 obtain ⟨e,he,rfl⟩:=mem_map.mp m
 rw[w.all e he] at h;cases h
theorem WC.newL (w:WC ow H0 H L R) (h:H a=none):WC ow H0 (upd H a (.lst xs)) ((a,.lst xs)::L) R:=by
 have w':=w.same (Same.new (o:=.lst xs) h)
 refine ⟨w'.os,w'.ts,fun e he=>?_,?_,fun x hx=>?_,fun x hx=>?_,w'.rp,w'.al⟩
 ·rcases mem_cons.mp he with rfl|he
  ·exact Zag
  ·exact w'.all e he
 ·rw[map_cons,nodup_cons]
  exact ⟨w.mem h,w.nd⟩
 ·rcases mem_cons.mp hx with rfl|hx
  ·exact w.free h
  ·exact w.nw x hx
 ·rcases mem_cons.mp hx with rfl|hx
  ·intro ys z;cases z
  ·exact w.nt x hx
theorem WC.perm (w:WC ow H0 H L R) (h:L.Perm L'):WC ow H0 H L' R:=⟨w.os,w.ts,fun e he=>w.all e (h.mem_iff.mpr he),(h.map _).nodup_iff.mp w.nd,fun x hx=>w.nw x ((h.map _).mem_iff.mpr hx),fun x hx=>w.nt x (h.mem_iff.mpr hx),w.rp,w.al⟩
end
theorem Zkw {K:W.Frag} {H:Hp} {p:Addr} {ys:List V} {Q:VK} (h:SqT K H p ys) (q:Q (.int ys.length) H):rLen K [.ref p] H Q:=⟨_,_,rfl,.inr ⟨ys,h,rfl⟩,q⟩
end L2
end
section
namespace HT
open PySem PySem.Spec PyProof.Rows L2
section
variable {prog:Program} {w:World} {A:Around} {E:Value->Shared->Prop} {s:Shared}
theorem getItem_tuple_all {t sl:Addr} {items:Array Value} {vl vu:Value} {lo hi:Option Int} {Q:Value->Shared->Prop} (ht:IsTup s.heap t items) (hs:s.heap.IsSliceOf sl vl vu .none) (pl:IsPart vl lo) (pu:IsPart vu hi)
  (hw:sIx items.size 0 lo=0/\sIx items.size items.size hi=items.size) (h:Q (.ref t) s):wpAny (model prog w) A (getItem (.ref t) (.ref sl)) Q E s:=by
 obtain ⟨os,hos,hcs,hds⟩:=id hs
 have hTs:s.TypeIs (.ref sl) "slice":=⟨os,hos,hcs⟩
 unfold getItem
 try with_reducible refine wpAny_holding ?_
 first|refine wpAny_bind (wpAny_pure ?_)|skip
 refine wpAny_bind (wpAny_sequenceKey ht.typeIs (by decide) ?_)
 refine wpAny_bind (wpAny_callSpecial?_slot (name:=Str.ofString "__getitem__") ht.typeIs PyProof.Rows.slot_tuple_getitem
  (wpAny_call_entry PyProof.Rows.slot_tuple_getitem ht.typeIs entry_tuple_getitem ?_ (args_tuple_getitem _ _)))
 show wpAny _ _ (Builtin.Tuple.tupleItemsOf (.ref t) >>= _) _ _ s
 refine wpAny_bind (tupleItemsOf_ ht ?_)
 refine wpAny_bind (wpAny_typeOf hTs ?_)
 rw[if_pos (by decide)]
 refine wpAny_bind (Zde hs pl pu ?_)
 have hyes:((((sIx items.size 0 lo:Nat):Int) == 0 && (1:Int) == 1 && (sIx items.size items.size hi - sIx items.size 0 lo) == items.size)=true):=by
  rw[hw.1,hw.2];simp
 show wpAny _ _ (if (((sIx items.size 0 lo:Nat):Int) == 0 && (1:Int) == 1 && (sIx items.size items.size hi - sIx items.size 0 lo) == items.size)=true then _ else _) _ _ s
 rw[if_pos hyes]
 refine wpAny_bind ?_
 refine wpAny_bind ?_
 refine wpAny_typeOf ht.typeIs (wpAny_pure ?_)
 rw[if_pos (by decide)]
 exact wpAny_bind (wpAny_rule (wpAny_pure ⟨_,rfl,wpAny_pure h⟩))
end
end HT
namespace L2
open PySem PySem.Spec PyProof.Rows
section
variable {X:Cx} {K:W.Frag}
def rSlW (K:W.Frag):V->Option Int->Option Int->Hp->VK->Prop:=fun x lo hi H Q=>∃ a xs,x=.ref a/\SqT K H a xs/\(cutV xs lo hi=xs->Q (.ref a) H)/\∀ p,H p=none->Q (.ref p) (upd H p (.tup (cutV xs lo hi)))
theorem ZlQ:SlR X (rSlW X.K):=by
 intro pins s σ H x v vl vu lo hi sl Q I rx hs pl pu h
 obtain ⟨a,xs,rfl,hx,q1,q⟩:=h
 by_cases hw:HT.sIx xs.length 0 lo=0/\HT.sIx xs.length xs.length hi=xs.length
 ·cases rx
  obtain ⟨its,r,ht,hz⟩:=I.tuple hx
  have hlen:its.toArray.size=xs.length:=by rw[size_toArray];exact r.length.symm
  refine ⟨"tuple",_,PyProof.Rows.slot_tuple_getitem.lookup,ht.typeIs,?_⟩
  refine HT.getItem_tuple_all ht hs pl pu (by rw[hlen];exact hw) ?_
  refine ⟨.ref a,H,I,rfl,q1 ?_⟩
  unfold cutV
  rw[hw.1,hw.2]
  simp
 ·exact sl_tup pins s σ H _ v vl vu lo hi sl Q I rx hs pl pu ⟨a,xs,rfl,hx,hw,q⟩
theorem ZjJ (h:X.K=K):SlR X (rSlW K):=h▸ZlQ
end
theorem Zgw {K:W.Frag} {H:Hp} {a:Addr} {xs:List V} {lo hi:Option Int} {Q:VK} (h:H a=some (.tup xs)) (q:∀ p H',H' p=some (.tup (cutV xs lo hi))->Same H H'->Q (.ref p) H'):rSlW K (.ref a) lo hi H Q :=
 ⟨a,xs,rfl,SqT.of h,fun e=>q a H (by rw[e];exact h) (Same.refl _),fun p hp=>q p _ Zag (Same.new hp)⟩
section
variable {X:Cx} {pos:Pos}
def gLst (K:W.Frag) (n:Nat) (t:TGs):TG:=fun v σ H Q=>∃ a xs,v=.ref a/\SqL K H a xs/\xs.length=n/\t xs σ H Q
theorem Zlh {prog:Program} {w:World} {A:Around} {E:Value->Shared->Prop} {s:Shared} {env:Env} {elts:List Expr} {k:Nat} {t:Addr} {items:Array Value} {Q:Unit->Shared->Prop} (hh:A.handled=none) (ht:s.heap.IsList t items)
  (hn:(assignEach elts env).length=items.size) (hstar:(assignEach elts env).findIdx? (·.1)=none)
  (h:∀ h',Heap.ExtBut s.heap.objs.size s.heap h'->wpAny (model prog w) A (assignInOrder ((assignEach elts env).map (·.2)) items.toList) Q E { s with heap:=h' }) :
  wpAny (model prog w) A (assign (.Tuple elts k pos) env (.ref t)) Q E s:=by
 rw[arm_assign_Tuple]
 refine wpAny_bind (wpAny_standAt ?_)
 unfold unpack
 rw[hn,hstar]
 exact wpAny_bind (wpAny_holding (PySem.W.kun_itemsOf hh ht h))
theorem pg_lst {es:List Expr} {k:Nat} {t:TGs} {n:Nat} (hc:X.calm=true) (h:PGs X es t)
  (hn:(assignEach es X.env).length=n:=by rfl) (hst:(assignEach es X.env).findIdx? (·.1)=none:=by rfl):PG X (.Tuple es k pos) (gLst X.K n t):=by
 intro pins s σ H v u Q I r hw
 obtain ⟨a,xs,e1,hq,hl,hw⟩:=hw
 subst e1
 cases r
 obtain ⟨its,rv,ht,hz⟩:=I.list hq
 refine Zlh (I.ok.hd hc) ht.isList (by simp[hn,<- hl,rv.length]) hst fun h' hx=>?_
 have I1:Inv X pins σ H { s with heap:=h' }:=I.kept (t':=s.toks) fun b o e=>hx b o (Nat.ne_of_lt (Heap.lt_size e)) e
 exact h pins _ σ H xs _ Q I1 (by simpa using rv) hw
theorem ZkR {K:W.Frag} {es:List Expr} {k:Nat} {t:TGs} {n:Nat} (h:X.K=K) (hc:X.calm=true) (hg:PGs X es t)
  (hn:(assignEach es X.env).length=n:=by rfl) (hst:(assignEach es X.env).findIdx? (·.1)=none:=by rfl):PG X (.Tuple es k pos) (gLst K n t):=h▸pg_lst hc hg hn hst
theorem Zl0 {K:W.Frag} {n:Nat} {H:Hp} {σ:St} {tg:TGs} {a:Addr} {xs:List V} {R:St->Hp->Prop} (h:H a=some (.lst xs)) (hl:xs.length=n) (q:tg xs σ H R):gLst K n tg (.ref a) σ H R:=⟨a,xs,rfl,SqL.of h,hl,q⟩
end
section
variable {X:Cx} {pos:Pos} {es:List Expr} {te:TE} {t:TA}
theorem Zbs {l:List Expr} (ha:PE X (.List l pos) te) (hr:PA X es t):PA X (.List l pos::es) (Zae te t):=Zcb ha hr rfl
theorem Zam {l:List Expr} {k:Nat} (ha:PE X (.Tuple l k pos) te) (hr:PA X es t):PA X (.Tuple l k pos::es) (Zae te t):=Zcb ha hr rfl
theorem Zc9 {a b:Expr} {op:Operator} (ha:PE X (.BinOp a op b pos) te) (hr:PA X es t):PA X (.BinOp a op b pos::es) (Zae te t):=Zcb ha hr rfl
theorem Za4 {f:Expr} {as:List Expr} {ks} (ha:PE X (.Call f as ks pos) te) (hr:PA X es t):PA X (.Call f as ks pos::es) (Zae te t):=Zcb ha hr rfl
theorem ZcH {e:Expr} {gs} {sc} (ha:PE X (.ListComp e gs sc pos) te) (hr:PA X es t):PA X (.ListComp e gs sc pos::es) (Zae te t):=Zcb ha hr rfl
theorem Zav {a b:Expr} (ha:PE X (.Subscript a b pos) te) (hr:PA X es t):PA X (.Subscript a b pos::es) (Zae te t):=Zcb ha hr rfl
theorem Zac {x:Str} (ha:PE X (.Name x pos) te) (hr:PA X es t):PA X (.Name x pos::es) (Zae te t):=Zcb ha hr rfl
theorem Zab {c:Const} {k:Nat} (ha:PE X (.Constant c k pos) te) (hr:PA X es t):PA X (.Constant c k pos::es) (Zae te t):=Zcb ha hr rfl
theorem ZdE {a:Expr} {op:UnaryOp} (ha:PE X (.UnaryOp op a pos) te) (hr:PA X es t):PA X (.UnaryOp op a pos::es) (Zae te t):=Zcb ha hr rfl
theorem Zbc {a:Expr} {x:Str} (ha:PE X (.Attribute a x pos) te) (hr:PA X es t):PA X (.Attribute a x pos::es) (Zae te t):=Zcb ha hr rfl
theorem ZkI {a b c:Expr} (ha:PE X (.IfExp a b c pos) te) (hr:PA X es t):PA X (.IfExp a b c pos::es) (Zae te t):=Zcb ha hr rfl
theorem ZkH {a:Expr} {os:List CmpOp} {cs:List Expr} (ha:PE X (.Compare a os cs pos) te) (hr:PA X es t):PA X (.Compare a os cs pos::es) (Zae te t):=Zcb ha hr rfl
theorem ZcM {l:List Expr} {p:Pos} {i:Nat} {x:Str} {pos':Pos} (hN:X.N.Nodup) (hi:X.N[i]?=some x) (hx:Loc X.env.scope x) (he:PE X (.List l p) te) (hf:X.fn x=true\/X.env.scope.names.lookup x=some .local:=by first|exact .inl rfl|exact .inr rfl|assumption):PS X (.Assign [.Name x pos'] (.List l p) pos) (tAsg te (ZaI i)):=ZcS hN hi hx he rfl hf
theorem ZcL {l:List Expr} {k:Nat} {p:Pos} {i:Nat} {x:Str} {pos':Pos} (hN:X.N.Nodup) (hi:X.N[i]?=some x) (hx:Loc X.env.scope x) (he:PE X (.Tuple l k p) te) (hf:X.fn x=true\/X.env.scope.names.lookup x=some .local:=by first|exact .inl rfl|exact .inr rfl|assumption):PS X (.Assign [.Name x pos'] (.Tuple l k p) pos) (tAsg te (ZaI i)):=ZcS hN hi hx he rfl hf
theorem ZdQ {a b:Expr} {op:Operator} {p:Pos} {i:Nat} {x:Str} {pos':Pos} (hN:X.N.Nodup) (hi:X.N[i]?=some x) (hx:Loc X.env.scope x) (he:PE X (.BinOp a op b p) te) (hf:X.fn x=true\/X.env.scope.names.lookup x=some .local:=by first|exact .inl rfl|exact .inr rfl|assumption):PS X (.Assign [.Name x pos'] (.BinOp a op b p) pos) (tAsg te (ZaI i)):=ZcS hN hi hx he rfl hf
theorem Zbl {f:Expr} {as:List Expr} {ks} {p:Pos} {i:Nat} {x:Str} {pos':Pos} (hN:X.N.Nodup) (hi:X.N[i]?=some x) (hx:Loc X.env.scope x) (he:PE X (.Call f as ks p) te) (hf:X.fn x=true\/X.env.scope.names.lookup x=some .local:=by first|exact .inl rfl|exact .inr rfl|assumption):PS X (.Assign [.Name x pos'] (.Call f as ks p) pos) (tAsg te (ZaI i)):=ZcS hN hi hx he rfl hf
theorem Zbd {a b:Expr} {p:Pos} {i:Nat} {x:Str} {pos':Pos} (hN:X.N.Nodup) (hi:X.N[i]?=some x) (hx:Loc X.env.scope x) (he:PE X (.Subscript a b p) te) (hf:X.fn x=true\/X.env.scope.names.lookup x=some .local:=by first|exact .inl rfl|exact .inr rfl|assumption):PS X (.Assign [.Name x pos'] (.Subscript a b p) pos) (tAsg te (ZaI i)):=ZcS hN hi hx he rfl hf
end
def deedRowsT:List (Str×List Str):=[("test",["zero","below"]),("tell",["tell"]),("take",["take"])]
abbrev Fm:=Int×List (Int×Int)
abbrev SF:=Int×Int×List Fm
structure Edg where
 rows:Int
 moves:List Fm
 k:Int
inductive Dd where
 | go (e:Edg)|test (y n:Edg)|tell (e:Edg)|take (e:Edg)|hold (w n:Int) (e:Edg)|leave
structure Std where
 many:Int
 paper:List SF
 deed:Dd
def fmD (f:Fm):D:=formD f.1 f.2
def sfDD (s:SF):D:=.tup [.int s.1,.int s.2.1,.tup (s.2.2.map fmD)]
def Edg.d (e:Edg):D:=.tup [.int e.rows,.tup (e.moves.map fmD),.int e.k]
def Dd.word:Dd->Str
 | .go _=>"go"|.test _ _=>"test"|.tell _=>"tell"|.take _=>"take"|.hold _ _ _=>"hold"|.leave=>"leave"
def Dd.parts:Dd->List D
 | .go e=>[e.d]|.test y n=>[y.d,n.d]|.tell e=>[e.d]|.take e=>[e.d]|.hold w n e=>[.int w,.int n,e.d]|.leave=>[]
def Dd.d (d:Dd):D:=.tup (.str d.word::d.parts)
def Dd.edges:Dd->List Edg
 | .go e=>[e]|.test y n=>[y,n]|.tell e=>[e]|.take e=>[e]|.hold _ _ e=>[e]|.leave=>[]
def StdAt (H:Hp) (st:Std) (v:V):Prop:=∃ t l ys vd,v=.ref t/\H t=some (.tup [.int st.many,.ref l,vd])/\H l=some (.lst ys)/\Reps H (st.paper.map sfDD) ys/\Rep H st.deed.d vd
theorem StdAt.mono {H H':Hp} {st:Std} {v:V} (h:StdAt H st v) (s:Same H H'):StdAt H' st v:=by
 obtain ⟨t,l,ys,vd,e,h1,h2,h3,h4⟩:=h
 exact ⟨t,l,ys,vd,e,s _ _ h1,s _ _ h2,h3.mono s.ts,h4.mono s.ts⟩
theorem StdAt.by {H H':Hp} {own:List Addr} {st:Std} {v:V} (h:StdAt H st v) (s:OSame own H H') (n:ZeA own H) (m:∀ t l vd,v=.ref t->H t=some (.tup [.int st.many,.ref l,vd])->l∉own):StdAt H' st v:=by
 obtain ⟨t,l,ys,vd,e,h1,h2,h3,h4⟩:=h
 have ts:=s.ts n
 exact ⟨t,l,ys,vd,e,ts _ _ h1,s _ _ (m t l vd e h1) h2,h3.mono ts,h4.mono ts⟩
structure LaneAt (H:Hp) (sts:List Std) (q:Addr) (ys:List V):Prop where
 lst:H q=some (.lst ys)
 len:sts.length=ys.length
 at':∀ (i:Nat) st v,sts[i]?=some st->ys[i]?=some v->StdAt H st v
theorem LaneAt.mono {H H':Hp} {sts:List Std} {q:Addr} {ys:List V} (h:LaneAt H sts q ys) (s:Same H H'):LaneAt H' sts q ys:=⟨s _ _ h.lst,h.len,fun i st v a b=>(h.at' i st v a b).mono s⟩
theorem LaneAt.get {H:Hp} {sts:List Std} {q:Addr} {ys:List V} {k:Nat} {st:Std} (h:LaneAt H sts q ys) (e:sts[k]?=some st):∃ v,ys[k]?=some v/\StdAt H st v:=by
 have hk:k < ys.length:=by rw[<-h.len];exact (List.getElem?_eq_some_iff.mp e).1
 exact ⟨_,getElem?_eq_getElem hk,h.at' _ _ _ e (getElem?_eq_getElem hk)⟩
def wF (ws:List Int) (f:Fm):Int:=Zlj f.1 f.2 ws
def wSF (ws:List Int) (s:SF):Fr:=(s.1,s.2.1,s.2.2.map (wF ws))
def Rw.box1:Rw->Int
 | .zero p _=>p|.below p _=>p|.tell p=>p|_=>0
def Rw.goes:Rw->Int->Bool
 | .zero _ _,n=>decide (n=0)
 | _,n=>decide (n < 0)
def ZfW (P:List Df) (st:Std):Option Rw:=st.paper.getLast?.bind fun s=>ZbL P s.1 s.2.1
def boxN (P:List Df) (st:Std) (ws:List Int):Int:=match st.paper.getLast?,ZfW P st with
 | some s,some r=>wF ws (s.2.2.getD r.box1.toNat (0,[]))
 | _,_=>0
def Za1 (P:List Df) (st:Std) (ws:List Int):Option Edg:=match st.deed with
 | .test y n=>some (if ((ZfW P st).map fun r=>r.goes (boxN P st ws))=some true then y else n)
 | d=>d.edges.head?
def Dd.own:Dd->Bool
 | .test _ _=>true|.tell _=>true|.take _=>true|_=>false
def ZbK (d:Dd) (e:Edg):Int:=if d.own then e.rows+1 else e.rows
def whyA (most:Int) (h:HS) (st:Std) (ws:List Int) (e:Option Edg):Option Str:=match st.deed,e with
 | .leave,_=>some "leave"
 | .hold w n _,some e=>if ws.getD w.toNat 0=n then (if most < h.gone+ZbK st.deed e then some "short" else none) else some "fall"
 | .take _,some e=>if h.left=[] then some "short" else (if most < h.gone+ZbK st.deed e then some "short" else none)
 | _,some e=>if most < h.gone+ZbK st.deed e then some "short" else none
 | _,none=>none
def wsA (h:HS) (st:Std) (ws:List Int):List Int:=match st.deed with
 | .take _=>ws++[h.left.headD 0]
 | _=>ws
def hA (P:List Df) (h:HS) (st:Std) (ws:List Int) (e:Edg):HS :=
 { h with news:=(match st.deed with|.tell _=>h.news++[boxN P st ws]|_=>h.news),left:=(match st.deed with|.take _=>h.left.tail|_=>h.left),gone:=h.gone+ZbK st.deed e }
def ledH (h:HS) (st:Std) (ws:List Int):HS:={ h with frames:=h.frames.dropLast++st.paper.map (wSF ws) }
inductive LRun (P:List Df) (sts:List Std) (most:Int) (bs:List Bool):HS->Nat->List Int->Nat->HS->Str->Nat->Nat->Prop
 | called {h k ws n st} (e:sts[k]?=some st) (b:bs.getD n false=true):LRun P sts most bs h k ws n (ledH h st ws) "away" k (n+1)
 | left {h k ws n st why} (e:sts[k]?=some st) (b:bs.getD n false=false) (w:whyA most h st ws (Za1 P st ws)=some why):LRun P sts most bs h k ws n (ledH h st ws) why k (n+1)
 | on {h k ws n st ed h' why k' n'} (e:sts[k]?=some st) (b:bs.getD n false=false) (ee:Za1 P st ws=some ed) (w:whyA most h st ws (Za1 P st ws)=none) (r:LRun P sts most bs (hA P h st ws ed) ed.k.toNat (ed.moves.map (wF (wsA h st ws))) (n+1) h' why k' n'):LRun P sts most bs h k ws n h' why k' n'
structure FmO (many:Nat) (f:Fm):Prop where
 l:f.2.length<=1000
 p:∀ p∈f.2,p.1.natAbs<=10 ^ 2000/\0<=p.2/\p.2 < many
def WsO (ws:List Int):Prop:=ws.length<=1000/\∀ z∈ws,z.natAbs<=10 ^ 2000
theorem Zce {n:Int} (h:n.natAbs<=10 ^ 2000):n.natAbs < 2 ^ 8000:=Nat.lt_of_le_of_lt h (by decide +kernel)
def Dd.asks:Dd->Bool
 | .test _ _=>true|.tell _=>true|_=>false
def Dd.fits:Dd->Rw->Prop
 | .test _ _,r=>(∃ p t,r=.zero p t)\/∃ p t,r=.below p t
 | .tell _,r=>∃ p,r=.tell p
 | _,_=>True
structure SOk (P:List Df) (st:Std) (ws:List Int):Prop where
 last:∃ ps s d r,st.paper=ps++[s]/\0<=s.1/\P[s.1.toNat]?=some d/\0<=s.2.1/\d.rows[s.2.1.toNat]?=some r/\st.deed.fits r/\(st.deed.asks=true->0<=r.box1/\r.box1.toNat < s.2.2.length)
 few:st.paper.length<=100
 fms:∀ s∈st.paper,s.2.2.length<=100/\∀ f∈s.2.2,FmO ws.length f
 wo:WsO ws
 hold:∀ w n e,st.deed=.hold w n e->0<=w/\w.toNat < ws.length
structure EOk (e:Edg) (many:Nat):Prop where
 few:e.moves.length<=1000
 fms:∀ f∈e.moves,FmO many f
 k:0<=e.k
theorem TopI.ok2 {P:Program} {w:World} {K:W.Frag} {mg:Str->Option Value} {base:Heap} {C:Addr} {x:Str} {qual:Str} {st:Stmt} {N:List Str} {k:Nat} {a1 a2:Str} {b:V->V->Hp->VK->Prop} (T:TopI K mg C x qual st [a1,a2]) (S:FnScope N [a1,a2] (Zan st))
  (h:∀ (f:Addr) (cdv:Value) (A:Around) (outer:List Env) (s:Shared) (H:Hp) (v1 v2:V) (Q:VK) (E:XK),Room k (A.deeper (envOfC qual (Zan st) s.heap.objs.size f cdv))->b v1 v2 H Q->ZeB P w K mg base N qual st f cdv A outer s H [v1,v2] Q E):CCal P w K mg base C x (k+1) [a1,a2] (sp2 b):=by
 obtain ⟨f,fd,F,hm,hb,hx⟩:=T.ex
 refine ⟨f,fd,F.ok S (fun vs H Q E ⟨_,_,e,_⟩=>by rw[e];rfl) (fun cdv A outer s H vs Q E hr hsp=>?_),hm,hb,hx⟩
 obtain ⟨v1,v2,rfl,hb⟩:=hsp
 exact h f cdv A outer s H v1 v2 Q E hr hb
end L2
end
section
namespace L2
open PySem
section
variable {H0:Hp} {σ:St} {t:TE} {ts:TA} {d:D} {ds:List D}
def DT (H0:Hp) (t:TE) (σ:St) (d:D):Prop:=∀ H,Same H0 H->∀ Q:VK,(∀ v H',Same H H'->Rep H' d v->Q v H')->t σ H Q
def DA (H0:Hp) (t:TA) (σ:St) (ds:List D):Prop:=∀ H,Same H0 H->∀ Q:List V->Hp->Prop,(∀ vs H',Same H H'->Reps H' ds vs->Q vs H')->t σ H Q
theorem Zin {n:Int}:DT H0 (tC (.int n)) σ (.int n):=fun H _ Q k=>k _ H (Same.refl _) ZaR
theorem ZgQ {n:Str}:DT H0 (tC (.str n)) σ (.str n):=fun H _ Q k=>k _ H (Same.refl _) (by rw[Rep])
theorem dt_v {v:V} (h:∀ H,Same H0 H->∀ Q:VK,Q v H->t σ H Q) (r:Rep H0 d v):DT H0 t σ d:=fun H s Q k=>h H s Q (k v H (Same.refl _) (r.mono s.ts))
theorem Zfb {i:Nat} {v:V} (e:σ[i]?=some (some v)) (r:Rep H0 d v):DT H0 (tVar i) σ d:=dt_v (fun H _ Q q=>⟨v,e,q⟩) r
theorem ZgS:DA H0 tNil σ []:=fun H _ Q k=>k _ H (Same.refl _) ZaM
theorem ZdY (a:DT H0 t σ d) (b:DA H0 ts σ ds):DA H0 (Zae t ts) σ (d::ds):=fun H s Q k=>a H s _ fun v H1 s1 r=>b H1 (s.trans s1) _ fun vs H2 s2 rs=>k _ _ (s1.trans s2) (Zas (r.mono s2.ts) rs)
theorem DA.len {H : Hp} : ∀ {ds : List D} {vs : List V}, Reps H ds vs -> vs.length = ds.length
  | [], vs, h => by rw[ZaD h]; rfl
  | d :: ds, vs, h => by
    obtain ⟨v,r,rfl,_,hr⟩:=Zaj h
    rw[length_cons, length_cons, DA.len hr]
theorem ZgP (a:DA H0 ts σ ds) (hl:Nat.ble ds.length 1000=true:=by rfl):DT H0 (tTup ts) σ (.tup ds):=fun H s Q k=>a H s _ fun vs H1 s1 rs=>⟨Zcc (by rw[DA.len rs];exact hl),fun p hp=>k _ _ (s1.trans (Same.new hp)) (ZbA Zag (rs.mono (Same.new hp).ts))⟩
theorem Zfc {H:Hp} {Q:VK} (a:DA H ts σ ds) (k:∀ p vs H',Same H H'->H p=none->H' p=some (.lst vs)->Reps H' ds vs->Q (.ref p) H') (hl:Nat.ble ds.length 1000=true:=by rfl):tLst ts σ H Q:=a H (Same.refl _) _ fun vs H1 s1 rs=>⟨Zcc (by rw[DA.len rs];exact hl),fun p hp=>k _ _ _ (s1.trans (Same.new hp)) (s1.free hp) Zag (rs.mono (Same.new hp).ts)⟩
theorem DT.go {H:Hp} {Q:VK} (a:DT H t σ d) (k:∀ v H',Same H H'->Rep H' d v->Q v H'):t σ H Q:=a H (Same.refl _) Q k
theorem ZmJ {K:W.Frag} {i:Nat} {q:Addr} {xs:List V} {n:Int} {v:V} (e:σ[i]?=some (some (.ref q))) (l:H0 q=some (.lst xs)) (a:atI xs n=some v) (r:Rep H0 d v):DT H0 (tOp (rIxA K) (tVar i) (tC (.int n))) σ d :=
 dt_v (fun H s Q k=>⟨_,e,Zak (s _ _ l) a k⟩) r
theorem Zim {n:Int}:DT H0 (tUn (rU fun i=>V.int (-i)) (tC (.int n))) σ (.int (-n)):=dt_v (fun H s Q k=>⟨n,rfl,k⟩) ZaR
theorem ZeP {K:W.Frag} {i:Nat} {q:Addr} {xs:List V} (e:σ[i]?=some (some (.ref q))) (l:H0 q=some (.lst xs)) (r:Reps H0 ds xs):DT H0 (tCB (ZdJ K) (Zae (tVar i) tNil)) σ (.tup ds):=fun H s Q k =>
 ⟨_,e,Zjh (SqL.of (s _ _ l)) fun p hp=>k _ _ (Same.new hp) (ZbA Zag ((r.mono s.ts).mono (Same.new hp).ts))⟩
end
end L2
end
section
namespace L2
open PySem PySem.Spec PyProof.Rows
section
variable {P:Program} {w:World} {K:W.Frag} {mg:Str->Option Value} {base:Heap} {x:Str} {st:Stmt} {ps N:List Str} {sp:Sp} {k:Nat}
def sp6 (b:V->V->V->V->V->V->Hp->VK->Prop):Sp:=fun vs H Q _=>∃ x y z u v t,vs=[x,y,z,u,v,t]/\b x y z u v t H Q
theorem use6 {b:V->V->V->V->V->V->Hp->VK->Prop} {x y z u v t:V} {H:Hp} {Q:VK} {E:XK} (h:b x y z u v t H Q):sp6 b [x,y,z,u,v,t] H Q E:=⟨x,y,z,u,v,t,rfl,h⟩
theorem TopFn.ok6 {a1 a2 a3 a4 a5 a6:Str} {b:V->V->V->V->V->V->Hp->VK->Prop} (T:TopFn K mg x st [a1,a2,a3,a4,a5,a6]) (S:FnScope N [a1,a2,a3,a4,a5,a6] (Zan st))
  (h:∀ (f:Addr) (cdv:Value) (A:Around) (outer:List Env) (s:Shared) (H:Hp) (v1 v2 v3 v4 v5 v6:V) (Q:VK) (E:XK),Room k (A.deeper (envOfC x (Zan st) s.heap.objs.size f cdv))->b v1 v2 v3 v4 v5 v6 H Q->ZeB P w K mg base N x st f cdv A outer s H [v1,v2,v3,v4,v5,v6] Q E):Callee P w K mg base x (k+1) [a1,a2,a3,a4,a5,a6] (sp6 b) :=
 T.callee fun f fd F=>F.ok S (fun vs H Q E ⟨_,_,_,_,_,_,e,_⟩=>by rw[e];rfl) fun cdv A outer s H vs Q E hr hsp=>by
  obtain ⟨v1,v2,v3,v4,v5,v6,rfl,hb⟩:=hsp
  exact h f cdv A outer s H v1 v2 v3 v4 v5 v6 Q E hr hb
end
end L2
end
section
namespace L2
open PySem PySem.Spec PyProof.Rows PySem.Builtin PySem.Builtin.Str PySem.NumText
abbrev cs (z:Str):List Nat:=z.cps.toList
end L2
end
section
namespace L2
open PySem PySem.Spec PyProof.Rows PySem.Builtin PySem.Builtin.Str PySem.NumText
def intD:D->List Int
 | .int n=>[n]
 | _=>[]
def numD:D->List Int
 | .int n=>[n]
 | .tup ds=>ds.flatMap intD
 | _=>[]
def numsOf (r:Str×List D):List Int:=r.2.flatMap numD
end L2
end
section
namespace L2
open PySem PySem.Spec PyProof.Rows
def rNeE (K:W.Frag):R2:=fun x y H Q=>∃ a b xs,x=.ref a/\y=.ref b/\SqL K H a xs/\SqL K H b []/\Q (.bl (!decide (xs=[]))) H
theorem op_neE {X:Cx} (hu:X.A.units+64 < cLine):OpR X (compareOp .NotEq) (rNeE X.K):=by
 rintro pins s σ H x y v u Q I rx ry ⟨a,b,xs,rfl,rfl,ha,hb,q⟩
 by_cases hx:xs=[]
 ·subst hx
  refine Zlw hu pins s σ H _ _ v u Q I rx ry ⟨a,b,[],[],[],[],rfl,rfl,ha,hb,ZaM,ZaM,rfl,rfl,by simp[D.deps],?_⟩
  rw[Zb8]
  simpa using q
 ·cases rx;cases ry
  obtain ⟨its,vx,ht,_⟩:=I.list ha
  obtain ⟨its',vy,ht',_⟩:=I.list hb
  have l1:=vx.length
  have l2:=vy.length
  have hl:its.length≠its'.length:=by
   have:0 < xs.length:=length_pos_iff.mpr hx
   have l2:0=its'.length:=l2
   lia
  refine SeqAt.RcNeAt.lists_lengths ht.isList ht'.isList (by simpa using hl) (by lia) _ _ _ _ (ZaV I q ?_)
  simp[hx]
theorem k_neE {X:Cx} {K:W.Frag} (h:X.K=K) (hu:X.A.units+64 < cLine):OpR X (compareOp .NotEq) (rNeE K):=h▸op_neE hu
theorem Zlq {K:W.Frag} {H:Hp} {a b:Addr} {xs:List V} {Q:VK} (h1:H a=some (.lst xs)) (h2:H b=some (.lst [])) (q:Q (.bl (!decide (xs=[]))) H):rNeE K (.ref a) (.ref b) H Q:=⟨a,b,xs,rfl,rfl,SqL.of h1,SqL.of h2,q⟩
end L2
end
section
open PySem L2
local macro_rules | `(tactic| walk_at"fs") => `(tactic| exact ⟨rfl,rfl,rfl,by decide +kernel,rfl,by decide +kernel,by decide +kernel⟩)
local macro_rules | `(tactic| walk_at"rc") => `(tactic| with_reducible (first|refine rd_c ?_|refine ZfM ?_|refine ZlT ?_|refine Zbo ?_|refine Zbp ?_|refine ZaC ?_|refine Zh2 ?_|refine Zhr ?_|refine Za5 ?_|refine Zkx ?_|refine Zhh ?_|refine ZlV ?_|refine Zju ?_|refine ZlW ?_|refine Zjj ?_|refine ZeY ?_|refine Zhw ?_|refine rd_orV ?_|refine rd_notV ?_|refine Zjq ?_|refine rd_chain ?_|refine Zjk ?_|refine Zht ?_|refine Zl2 ?_|refine Zhv ?_|refine Zl4 ?_|refine rd_U ?_|refine Zgx ?_|refine Zjl ?_|refine Zb0 ?_|refine rd_neS ?_|refine rd_eqB ?_|refine rd_neB ?_|refine Zc8 ?_|refine Zjp ?_))
local macro_rules | `(tactic| walk_at"rd1") => `(tactic| (first | ((with_reducible refine' Zjg ?e ?_); (case e => exact rfl)) | walk_at"rc" | with_reducible (first|refine Zlo ?_|refine Zlr ?_|refine ZdP ?_|refine ZfL ?_|refine ZeZ ?_|refine Zhk ?_|refine Zl3 ?_|refine Zjt ?_|refine Zhu ?_|refine Zhn ?_|refine ZfO ?_|refine Zho ?_|refine ZfP ?_|refine Zhq ?_|refine Zjr ?_|refine Zjv ?_|refine rd_max ?_|refine rd_min ?_|refine Zhp ?_|refine ZfQ ?_|refine rd_dget2 ?_|refine Zhs ?_|refine Zjs ?_|refine Zhi ?_|refine Zhm ?_|refine Zjm ?_|refine Zjo ?_|refine Zhl ?_|refine rd_izip ?_|refine Zmw ?_|refine Zmx ?_|refine iteF ?_|refine iteT ?_)))
local macro_rules | `(tactic| walk_at"rd") => `(tactic| (repeat walk_at"rd1"))
local macro_rules | `(tactic| walk_at"mk") => `(tactic| refine ⟨Zcc rfl, ?_⟩)
local macro_rules | `(tactic| walk_at"rd1x") => `(tactic| (first | ((with_reducible refine' Zjg ?e ?_); (case e => exact rfl)) | walk_at"rc" | with_reducible (first|refine Zlo ?_|refine Zlr ?_|refine ZdP ?_|refine ZfL ?_|refine ZeZ ?_|refine Zhk ?_|refine Zl3 ?_|refine Zjt ?_|refine Zhu ?_|refine Zhn ?_|refine ZfO ?_|refine Zho ?_|refine ZfP ?_|refine Zhq ?_|refine Zjr ?_|refine Zjv ?_|refine rd_max ?_|refine rd_min ?_|refine Zhp ?_|refine ZfQ ?_|refine rd_dget2 ?_|refine Zhs ?_|refine Zjs ?_|refine Zhi ?_|refine Zhm ?_|refine Zjm ?_|refine Zjo ?_|refine Zhl ?_|refine ZkA ?_|refine rd_cdget ?_|refine Zky ?_|refine Zkz ?_|refine rd_izip ?_|refine Zmw ?_|refine Zmx ?_|refine iteF ?_|refine iteT ?_)))
local macro_rules | `(tactic| walk_at"rdx") => `(tactic| (repeat walk_at"rd1x"))
local macro_rules | `(tactic| walk_at"rd1y") => `(tactic| (first | ((with_reducible refine' Zjg ?e ?_); (case e => exact rfl)) | walk_at"rc" | with_reducible (first|refine ZlU ?_|refine ZlY ?_|refine ZdP ?_|refine ZfL ?_|refine ZeZ ?_|refine Zhk ?_|refine Zl3 ?_|refine Zjt ?_|refine Zhu ?_|refine Zhn ?_|refine ZfO ?_|refine Zho ?_|refine ZfP ?_|refine Zhq ?_|refine Zjr ?_|refine Zjv ?_|refine rd_max ?_|refine rd_min ?_|refine Zhp ?_|refine ZfQ ?_|refine rd_dget2 ?_|refine Zhs ?_|refine Zjs ?_|refine Zhi ?_|refine Zhm ?_|refine rd_makeN ?_|refine Zjo ?_|refine Zhl ?_|refine rd_izip ?_|refine Zmw ?_|refine Zmx ?_|refine iteF ?_|refine iteT ?_)))
local macro_rules | `(tactic| walk_at"rdy") => `(tactic| (repeat walk_at"rd1y"))
local macro_rules | `(tactic| walk_at"rpy") => `(tactic| (repeat first | exact ZaM | refine Zas ZaR ?_ | refine Zas (by rw [Rep]) ?_ | refine Zas (by rw [Rep]; rfl) ?_ | refine Zas (by assumption) ?_))
section
namespace My
open PySem L2
def top (i:Nat):Stmt:=PySem.Challenge.pw_midlanes_k50_whole_deepest_leave.main.body.getD i (.Pass ⟨0,0,0,0⟩)
abbrev Zeb:Stmt:=top 1
abbrev ZfI:Stmt:=top 2
abbrev Zea:Stmt:=top 5
abbrev Zcg:Stmt:=top 6
abbrev ZcZ:Stmt:=top 10
abbrev Zdw:Stmt:=top 11
abbrev Zcy:Stmt:=top 12
abbrev Zec:Stmt:=top 14
abbrev ZdA:Stmt:=top 17
abbrev Zdv:Stmt:=top 21
abbrev Zc0:Stmt:=top 22
abbrev ZeM:Stmt:=top 23
abbrev ZdB:Stmt:=top 24
abbrev Zdx:Stmt:=top 25
abbrev Zdz:Stmt:=top 26
abbrev Zed:Stmt:=top 27
abbrev Zcz:Stmt:=top 28
abbrev Zch:Stmt:=top 29
abbrev Zcx:Stmt:=top 30
abbrev Zee:Stmt:=top 31
abbrev Zdy:Stmt:=top 32
abbrev ZcA:Stmt:=top 33
abbrev ZdC:Stmt:=top 35
abbrev Zc5:Stmt:=top 36
abbrev Zcj:Stmt:=top 37
abbrev Zb6:Stmt:=top 38
abbrev Zc3:Stmt:=top 39
abbrev ZcF:Stmt:=top 40
abbrev Zc2:Stmt:=top 41
abbrev Zc4:Stmt:=top 42
abbrev ZcB:Stmt:=top 43
abbrev ZcD:Stmt:=top 44
abbrev ZcC:Stmt:=top 45
abbrev ZcE:Stmt:=top 46
abbrev Zc6:Stmt:=top 47
abbrev Zb7:Stmt:=top 48
abbrev Zci:Stmt:=top 49
abbrev Zc1:Stmt:=top 50
abbrev Zks:Stmt:=top 51
abbrev ZbZ:Stmt:=Zds (top 9) 0
abbrev Zef:Stmt:=Zds (top 9) 1
abbrev Zck:Stmt:=Zds (top 9) 2
abbrev Zcl:Stmt:=Zds (top 9) 3
abbrev ZbP:Stmt:=Zds (top 9) 4
abbrev Zcm:Stmt:=Zds (top 9) 5
abbrev ZbC:Stmt:=Zds (top 20) 0
abbrev Zcn:Stmt:=Zds (top 20) 1
section
open PySem.W PyProof.Rows
def KK (P:Params):Frag:=[
(3,oD #[xe P "__name__" 165 (xs "law_midlanes_k50_whole_deepest_leave" 522),xe P "__doc__" 166 (.none),xe P "__package__" 167 (.none),xe P "__loader__" 168 (.builtin "__main__.__loader__#opaque"),xe P "__spec__" 169 (.none),xf P "__annotations__" 170 6,xf P "__builtins__" 171 4,xe P "__file__" 173 (xs "/claim/cut.py" 172),xe P "__cached__" 174 (.none),xf P "of_word" 195 21,xf P "worth" 201 26,xf P "RECKONINGS" 209 27,xf P "row_of" 217 34,xf P "goes_to_row" 225 41,xe P "MOST_FRAMES" 229 (xi (20) 228),xf P "Hand" 303 89,xf P "new_frame" 312 100,xf P "reckoned" 320 107,xf P "row_behind" 329 114,xf P "is_door" 337 119,xf P "DEED_ROWS" 350 120,xf P "edges_of" 357 130,xe P "MOST_FRAMES_OVER" 361 (xi (17) 360),xf P "Chances" 398 154,xf P "words_in" 405 165,xf P "frames_of" 411 170,xf P "ridden" 427 177,xf P "doors_of" 438 184,xf P "place_of" 446 191,xf P "has_room" 453 198,xf P "go_lane" 468 205,xf P "edge_ahead" 478 212,xf P "away_reason" 490 219,xf P "rows_ahead" 498 226,xf P "go_edge" 504 231,xf P "last_row" 512 238,xf P "box_number" 521 245,xf P "_law_bag" 529 250,xf P "_law_draw" 538 257,xf P "_law_number" 545 264,xf P "_law_program" 558 271,xf P "_law_lane" 564 276,xf P "_law_begun" 572 283,xf P "_law_step" 585 290,xf P "_law_goes" 591 295,xf P "_law_worth" 600 302,xf P "_law_under" 606 307,xf P "_law_words" 612 312,xf P "_law_doors" 624 319,xf P "_law_done" 630 324,xf P "_law_in_lane" 636 329,xf P "_law_ridden" 652 336,xf P "_law_when" 658 341,xf P "law" 677 348] 54),
(20,oC #[xs "of_word" 189,xs "of_word" 190,xs "/claim/cut.py" 191,xi (2) 0,xi (1) 0,xi (0) 0,xi (0) 0,xi (3) 0,xr 15,.bool true,xi (181) 0,xr 16,.none,xr 17,xr 18,xr 19,xi (193) 0,xi (2) 0,xs "/claim/cut.py" 194]),
(21,oG "of_word" Zeb "midlanes.forms" 187 20),
(25,oK "worth" 196 4 2 22),
(26,oG "worth" ZfI "midlanes.forms" 187 25),
(27,oT #[xs "put" 204,xs "copy" 205,xs "plus" 206,xs "less" 207,xs "times" 208]),
(33,oC #[xs "row_of" 210,xs "row_of" 211,xs "/claim/cut.py" 212,xi (8) 0,xi (2) 0,xi (0) 0,xi (0) 0,xi (3) 0,xr 28,.bool true,xi (181) 0,xr 29,.none,xr 30,xr 31,xr 32,xi (215) 0,xi (8) 0,xs "/claim/cut.py" 216]),
(34,oG "row_of" Zea "midlanes.rows" 202 33),
(40,oC #[xs "goes_to_row" 218,xs "goes_to_row" 219,xs "/claim/cut.py" 220,xi (10) 0,xi (2) 0,xi (0) 0,xi (0) 0,xi (3) 0,xr 35,.bool true,xi (181) 0,xr 36,.none,xr 37,xr 38,xr 39,xi (223) 0,xi (10) 0,xs "/claim/cut.py" 224]),
(41,oG "goes_to_row" Zcg "midlanes.rows" 202 40),
(52,oC #[xs "__init__" 242,xs "Hand.__init__" 243,xs "/claim/cut.py" 244,xi (16) 0,xi (3) 0,xi (0) 0,xi (0) 0,xi (3) 0,xr 49,.bool true,xi (181) 0,xr 50,.none,.none,.none,xr 51,xi (245) 0,xi (16) 0,xs "/claim/cut.py" 246]),
(53,oF "__init__" "Hand.__init__" ZbZ "midlanes.hand" 226 52),
(59,oC #[xs "go" 248,xs "Hand.go" 249,xs "/claim/cut.py" 250,xi (24) 0,xi (1) 0,xi (0) 0,xi (0) 0,xi (3) 0,xr 54,.bool true,xi (181) 0,xr 55,.none,xr 56,xr 57,xr 58,xi (253) 0,xi (24) 0,xs "/claim/cut.py" 254]),
(60,oF "go" "Hand.go" Zef "midlanes.hand" 226 59),
(66,oC #[xs "end_at" 256,xs "Hand.end_at" 257,xs "/claim/cut.py" 258,xi (32) 0,xi (2) 0,xi (0) 0,xi (0) 0,xi (3) 0,xr 61,.bool true,xi (181) 0,xr 62,.none,xr 63,xr 64,xr 65,xi (262) 0,xi (32) 0,xs "/claim/cut.py" 263]),
(67,oF "end_at" "Hand.end_at" Zck "midlanes.hand" 226 66),
(71,oC #[xs "do_row" 265,xs "Hand.do_row" 266,xs "/claim/cut.py" 267,xi (42) 0,xi (2) 0,xi (0) 0,xi (0) 0,xi (3) 0,xr 68,.bool true,xi (181) 0,xr 69,.none,.none,.none,xr 70,xi (268) 0,xi (42) 0,xs "/claim/cut.py" 269]),
(72,oF "do_row" "Hand.do_row" Zcl "midlanes.hand" 226 71),
(78,oC #[xs "give_back" 271,xs "Hand.give_back" 272,xs "/claim/cut.py" 273,xi (54) 0,xi (2) 0,xi (0) 0,xi (0) 0,xi (3) 0,xr 73,.bool true,xi (181) 0,xr 74,.none,xr 75,xr 76,xr 77,xi (278) 0,xi (54) 0,xs "/claim/cut.py" 279]),
(79,oF "give_back" "Hand.give_back" ZbP "midlanes.hand" 226 78),
(85,oC #[xs "do_own" 281,xs "Hand.do_own" 282,xs "/claim/cut.py" 283,xi (60) 0,xi (3) 0,xi (0) 0,xi (0) 0,xi (3) 0,xr 80,.bool true,xi (181) 0,xr 81,.none,xr 82,xr 83,xr 84,xi (287) 0,xi (60) 0,xs "/claim/cut.py" 288]),
(86,oF "do_own" "Hand.do_own" Zcm "midlanes.hand" 226 85),
(87,oT #[xs "end" 290,xs "frames" 291,xs "gone" 292,xs "left" 293,xs "news" 294,xs "program" 295]),
(88,oD #[xe P "__module__" 237 (xs "midlanes.hand" 226),xe P "__firstlineno__" 241 (xi (14) 240),xf P "__init__" 247 53,xf P "go" 255 60,xf P "end_at" 264 67,xf P "do_row" 270 72,xf P "give_back" 280 79,xf P "do_own" 289 86,xf P "__static_attributes__" 296 87,xf P "__dict__" 298 90,xf P "__weakref__" 300 91,xe P "__doc__" 301 (.none)] 4),
(89,⟨.type "type",none,.cls { name:=Str.ofString "Hand",bases:=[.type "object"],mro:=[xr 89,.type "object"],ns:=88,qualname:=Str.ofString "Hand",hasDict:=true,subclasses:=[],abstract:=false,hasDel:=false },#[none,none,some (xs "Hand" 230),some (xs "Hand" 238),some (.builtin "object.__new__"),some (.bool true)]⟩),
(99,oC #[xs "new_frame" 304,xs "new_frame" 305,xs "/claim/cut.py" 306,xi (67) 0,xi (3) 0,xi (0) 0,xi (0) 0,xi (3) 0,xr 94,.bool true,xi (181) 0,xr 95,.none,xr 96,xr 97,xr 98,xi (310) 0,xi (67) 0,xs "/claim/cut.py" 311]),
(100,oG "new_frame" ZcZ "midlanes.hand" 226 99),
(106,oC #[xs "reckoned" 313,xs "reckoned" 314,xs "/claim/cut.py" 315,xi (69) 0,xi (2) 0,xi (0) 0,xi (0) 0,xi (3) 0,xr 101,.bool true,xi (181) 0,xr 102,.none,xr 103,xr 104,xr 105,xi (318) 0,xi (69) 0,xs "/claim/cut.py" 319]),
(107,oG "reckoned" Zdw "midlanes.hand" 226 106),
(113,oC #[xs "row_behind" 321,xs "row_behind" 322,xs "/claim/cut.py" 323,xi (79) 0,xi (3) 0,xi (0) 0,xi (0) 0,xi (3) 0,xr 108,.bool true,xi (181) 0,xr 109,.none,xr 110,xr 111,xr 112,xi (327) 0,xi (79) 0,xs "/claim/cut.py" 328]),
(114,oG "row_behind" Zcy "midlanes.hand" 226 113),
(118,oK "is_door" 332 86 2 115),
(119,oG "is_door" Zec "midlanes.papers" 330 118),
(120,oD #[xf P "test" 340 121,xf P "tell" 343 122,xf P "take" 345 123] 3),
(121,oT #[xs "zero" 341,xs "below" 342]),
(122,oT #[xs "tell" 344]),
(123,oT #[xs "take" 346]),
(129,oC #[xs "edges_of" 351,xs "edges_of" 352,xs "/claim/cut.py" 353,xi (94) 0,xi (1) 0,xi (0) 0,xi (0) 0,xi (3) 0,xr 124,.bool true,xi (181) 0,xr 125,.none,xr 126,xr 127,xr 128,xi (355) 0,xi (94) 0,xs "/claim/cut.py" 356]),
(130,oG "edges_of" ZdA "midlanes.judge" 338 129),
(143,oC #[xs "__init__" 374,xs "Chances.__init__" 375,xs "/claim/cut.py" 376,xi (102) 0,xi (2) 0,xi (0) 0,xi (0) 0,xi (3) 0,xr 138,.bool true,xi (181) 0,xr 139,.none,xr 140,xr 141,xr 142,xi (379) 0,xi (102) 0,xs "/claim/cut.py" 380]),
(144,oF "__init__" "Chances.__init__" ZbC "midlanes.rides" 358 143),
(150,oC #[xs "ask" 382,xs "Chances.ask" 383,xs "/claim/cut.py" 384,xi (106) 0,xi (1) 0,xi (0) 0,xi (0) 0,xi (3) 0,xr 145,.bool true,xi (181) 0,xr 146,.none,xr 147,xr 148,xr 149,xi (386) 0,xi (106) 0,xs "/claim/cut.py" 387]),
(151,oF "ask" "Chances.ask" Zcn "midlanes.rides" 358 150),
(152,oT #[xs "asked" 389,xs "when" 390]),
(153,oD #[xe P "__module__" 369 (xs "midlanes.rides" 358),xe P "__firstlineno__" 373 (xi (100) 372),xf P "__init__" 381 144,xf P "ask" 388 151,xf P "__static_attributes__" 391 152,xf P "__dict__" 393 155,xf P "__weakref__" 395 156,xe P "__doc__" 396 (.none)] 4),
(154,⟨.type "type",none,.cls { name:=Str.ofString "Chances",bases:=[.type "object"],mro:=[xr 154,.type "object"],ns:=153,qualname:=Str.ofString "Chances",hasDict:=true,subclasses:=[],abstract:=false,hasDel:=false },#[none,none,some (xs "Chances" 362),some (xs "Chances" 370),some (.builtin "object.__new__"),some (.bool true)]⟩),
(164,oC #[xs "words_in" 399,xs "words_in" 400,xs "/claim/cut.py" 401,xi (109) 0,xi (1) 0,xi (0) 0,xi (0) 0,xi (3) 0,xr 159,.bool true,xi (181) 0,xr 160,.none,xr 161,xr 162,xr 163,xi (403) 0,xi (109) 0,xs "/claim/cut.py" 404]),
(165,oG "words_in" Zdv "midlanes.rides" 358 164),
(169,oK "frames_of" 406 111 2 166),
(170,oG "frames_of" Zc0 "midlanes.rides" 358 169),
(176,oC #[xs "ridden" 412,xs "ridden" 413,xs "/claim/cut.py" 414,xi (113) 0,xi (5) 0,xi (0) 0,xi (0) 0,xi (3) 0,xr 171,.bool true,xi (181) 0,xr 172,.none,xr 173,xr 174,xr 175,xi (425) 0,xi (113) 0,xs "/claim/cut.py" 426]),
(177,oG "ridden" ZeM "midlanes.rides" 358 176),
(183,oC #[xs "doors_of" 428,xs "doors_of" 429,xs "/claim/cut.py" 430,xi (126) 0,xi (2) 0,xi (0) 0,xi (0) 0,xi (3) 0,xr 178,.bool true,xi (181) 0,xr 179,.none,xr 180,xr 181,xr 182,xi (436) 0,xi (126) 0,xs "/claim/cut.py" 437]),
(184,oG "doors_of" ZdB "midlanes.rides" 358 183),
(190,oC #[xs "place_of" 439,xs "place_of" 440,xs "/claim/cut.py" 441,xi (132) 0,xi (1) 0,xi (0) 0,xi (0) 0,xi (3) 0,xr 185,.bool true,xi (181) 0,xr 186,.none,xr 187,xr 188,xr 189,xi (444) 0,xi (132) 0,xs "/claim/cut.py" 445]),
(191,oG "place_of" Zdx "midlanes.rides" 358 190),
(197,oC #[xs "has_room" 447,xs "has_room" 448,xs "/claim/cut.py" 449,xi (135) 0,xi (1) 0,xi (0) 0,xi (0) 0,xi (3) 0,xr 192,.bool true,xi (181) 0,xr 193,.none,xr 194,xr 195,xr 196,xi (451) 0,xi (135) 0,xs "/claim/cut.py" 452]),
(198,oG "has_room" Zdz "midlanes.rides" 358 197),
(204,oC #[xs "go_lane" 454,xs "go_lane" 455,xs "/claim/cut.py" 456,xi (137) 0,xi (5) 0,xi (0) 0,xi (0) 0,xi (3) 0,xr 199,.bool true,xi (181) 0,xr 200,.none,xr 201,xr 202,xr 203,xi (466) 0,xi (137) 0,xs "/claim/cut.py" 467]),
(205,oG "go_lane" Zed "midlanes.rides" 358 204),
(211,oC #[xs "edge_ahead" 469,xs "edge_ahead" 470,xs "/claim/cut.py" 471,xi (148) 0,xi (3) 0,xi (0) 0,xi (0) 0,xi (3) 0,xr 206,.bool true,xi (181) 0,xr 207,.none,xr 208,xr 209,xr 210,xi (476) 0,xi (148) 0,xs "/claim/cut.py" 477]),
(212,oG "edge_ahead" Zcz "midlanes.rides" 358 211),
(218,oC #[xs "away_reason" 479,xs "away_reason" 480,xs "/claim/cut.py" 481,xi (155) 0,xi (5) 0,xi (0) 0,xi (0) 0,xi (3) 0,xr 213,.bool true,xi (181) 0,xr 214,.none,xr 215,xr 216,xr 217,xi (488) 0,xi (155) 0,xs "/claim/cut.py" 489]),
(219,oG "away_reason" Zch "midlanes.rides" 358 218),
(225,oC #[xs "rows_ahead" 491,xs "rows_ahead" 492,xs "/claim/cut.py" 493,xi (166) 0,xi (2) 0,xi (0) 0,xi (0) 0,xi (3) 0,xr 220,.bool true,xi (181) 0,xr 221,.none,xr 222,xr 223,xr 224,xi (496) 0,xi (166) 0,xs "/claim/cut.py" 497]),
(226,oG "rows_ahead" Zcx "midlanes.rides" 358 225),
(230,oK "go_edge" 499 168 4 227),
(231,oG "go_edge" Zee "midlanes.rides" 358 230),
(237,oC #[xs "last_row" 505,xs "last_row" 506,xs "/claim/cut.py" 507,xi (175) 0,xi (2) 0,xi (0) 0,xi (0) 0,xi (3) 0,xr 232,.bool true,xi (181) 0,xr 233,.none,xr 234,xr 235,xr 236,xi (510) 0,xi (175) 0,xs "/claim/cut.py" 511]),
(238,oG "last_row" Zdy "midlanes.rides" 358 237),
(244,oC #[xs "box_number" 513,xs "box_number" 514,xs "/claim/cut.py" 515,xi (177) 0,xi (3) 0,xi (0) 0,xi (0) 0,xi (3) 0,xr 239,.bool true,xi (181) 0,xr 240,.none,xr 241,xr 242,xr 243,xi (519) 0,xi (177) 0,xs "/claim/cut.py" 520]),
(245,oG "box_number" ZcA "midlanes.rides" 358 244),
(249,oK "_law_bag" 524 180 1 246),
(250,oG "_law_bag" ZdC "law_midlanes_k50_whole_deepest_leave" 522 249),
(256,oC #[xs "_law_draw" 530,xs "_law_draw" 531,xs "/claim/cut.py" 532,xi (185) 0,xi (2) 0,xi (0) 0,xi (0) 0,xi (3) 0,xr 251,.bool true,xi (181) 0,xr 252,.none,xr 253,xr 254,xr 255,xi (536) 0,xi (185) 0,xs "/claim/cut.py" 537]),
(257,oG "_law_draw" Zc5 "law_midlanes_k50_whole_deepest_leave" 522 256),
(263,oC #[xs "_law_number" 539,xs "_law_number" 540,xs "/claim/cut.py" 541,xi (196) 0,xi (1) 0,xi (0) 0,xi (0) 0,xi (3) 0,xr 258,.bool true,xi (181) 0,xr 259,.none,xr 260,xr 261,xr 262,xi (543) 0,xi (196) 0,xs "/claim/cut.py" 544]),
(264,oG "_law_number" Zcj "law_midlanes_k50_whole_deepest_leave" 522 263),
(270,oC #[xs "_law_program" 546,xs "_law_program" 547,xs "/claim/cut.py" 548,xi (200) 0,xi (2) 0,xi (0) 0,xi (0) 0,xi (3) 0,xr 265,.bool true,xi (181) 0,xr 266,.none,xr 267,xr 268,xr 269,xi (556) 0,xi (200) 0,xs "/claim/cut.py" 557]),
(271,oG "_law_program" Zb6 "law_midlanes_k50_whole_deepest_leave" 522 270),
(275,oK "_law_lane" 559 210 2 272),
(276,oG "_law_lane" Zc3 "law_midlanes_k50_whole_deepest_leave" 522 275),
(282,oC #[xs "_law_begun" 565,xs "_law_begun" 566,xs "/claim/cut.py" 567,xi (233) 0,xi (2) 0,xi (0) 0,xi (0) 0,xi (3) 0,xr 277,.bool true,xi (181) 0,xr 278,.none,xr 279,xr 280,xr 281,xi (570) 0,xi (233) 0,xs "/claim/cut.py" 571]),
(283,oG "_law_begun" ZcF "law_midlanes_k50_whole_deepest_leave" 522 282),
(289,oC #[xs "_law_step" 573,xs "_law_step" 574,xs "/claim/cut.py" 575,xi (235) 0,xi (2) 0,xi (0) 0,xi (0) 0,xi (3) 0,xr 284,.bool true,xi (181) 0,xr 285,.none,xr 286,xr 287,xr 288,xi (583) 0,xi (235) 0,xs "/claim/cut.py" 584]),
(290,oG "_law_step" Zc2 "law_midlanes_k50_whole_deepest_leave" 522 289),
(294,oK "_law_goes" 586 248 4 291),
(295,oG "_law_goes" Zc4 "law_midlanes_k50_whole_deepest_leave" 522 294),
(301,oC #[xs "_law_worth" 592,xs "_law_worth" 593,xs "/claim/cut.py" 594,xi (267) 0,xi (3) 0,xi (0) 0,xi (0) 0,xi (3) 0,xr 296,.bool true,xi (181) 0,xr 297,.none,xr 298,xr 299,xr 300,xi (598) 0,xi (267) 0,xs "/claim/cut.py" 599]),
(302,oG "_law_worth" ZcB "law_midlanes_k50_whole_deepest_leave" 522 301),
(306,oK "_law_under" 601 279 2 303),
(307,oG "_law_under" ZcD "law_midlanes_k50_whole_deepest_leave" 522 306),
(311,oK "_law_words" 607 281 1 308),
(312,oG "_law_words" ZcC "law_midlanes_k50_whole_deepest_leave" 522 311),
(318,oC #[xs "_law_doors" 613,xs "_law_doors" 614,xs "/claim/cut.py" 615,xi (283) 0,xi (1) 0,xi (0) 0,xi (0) 0,xi (3) 0,xr 313,.bool true,xi (181) 0,xr 314,.none,xr 315,xr 316,xr 317,xi (622) 0,xi (283) 0,xs "/claim/cut.py" 623]),
(319,oG "_law_doors" ZcE "law_midlanes_k50_whole_deepest_leave" 522 318),
(323,oK "_law_done" 625 290 6 320),
(324,oG "_law_done" Zc6 "law_midlanes_k50_whole_deepest_leave" 522 323),
(328,oK "_law_in_lane" 631 310 6 325),
(329,oG "_law_in_lane" Zb7 "law_midlanes_k50_whole_deepest_leave" 522 328),
(335,oC #[xs "_law_ridden" 637,xs "_law_ridden" 638,xs "/claim/cut.py" 639,xi (322) 0,xi (5) 0,xi (0) 0,xi (0) 0,xi (3) 0,xr 330,.bool true,xi (181) 0,xr 331,.none,xr 332,xr 333,xr 334,xi (650) 0,xi (322) 0,xs "/claim/cut.py" 651]),
(336,oG "_law_ridden" Zci "law_midlanes_k50_whole_deepest_leave" 522 335),
(340,oK "_law_when" 653 334 1 337),
(341,oG "_law_when" Zc1 "law_midlanes_k50_whole_deepest_leave" 522 340),
(347,oC #[xs "law" 659,xs "law" 660,xs "/claim/cut.py" 661,xi (339) 0,xi (1) 0,xi (0) 0,xi (0) 0,xi (3) 0,xr 342,.bool true,xi (181) 0,xr 343,.none,xr 344,xr 345,xr 346,xi (675) 0,xi (339) 0,xs "/claim/cut.py" 676]),
(348,oG "law" Zks "law_midlanes_k50_whole_deepest_leave" 522 347)]
def AA:List Addr:=[3,20,21,25,26,27,33,34,40,41,52,53,59,60,66,67,71,72,78,79,85,86,87,88,89,99,100,106,107,113,114,118,119,120,121,122,123,129,130,143,144,150,151,152,153,154,164,165,169,170,176,177,183,184,190,191,197,198,204,205,211,212,218,219,225,226,230,231,237,238,244,245,249,250,256,257,263,264,270,271,275,276,282,283,289,290,294,295,301,302,306,307,311,312,318,319,323,324,328,329,335,336,340,341,347,348]
theorem AK:∀ P,AA=(KK P).map (·.1):=fun _=>by kernel_rfl
abbrev HH:Hook:=kHook KK AA AK
def QQ:Program:=view PySem.Challenge.pw_midlanes_k50_whole_deepest_leave [1,2,4,5,6,8,9,10,11,12,14,16,17,19,20,21,22,23,24,25,26,27,28,29,30,31,32,33,35,36,37,38,39,40,41,42,43,44,45,46,47,48,49,50,51]
abbrev XX:Shared->Bool:=fun s=>xlAt QQ [] s && recOk PySem.Challenge.rw_midlanes_k50_whole_deepest_leave.row.records s
theorem L0:LB "special-get-raises" false PySem.Challenge.pw_midlanes_k50_whole_deepest_leave QQ ["DEED_ROWS"] XX HH.obs HH.val 4074:=fun w os=>by kernel_rfl
theorem L1:LB "special-get-raises" true PySem.Challenge.pw_midlanes_k50_whole_deepest_leave QQ ["DEED_ROWS"] XX HH.obs HH.val 4074:=fun w os=>by kernel_rfl
theorem SD:OpenLaw.wellSaid PySem.Challenge.rw_midlanes_k50_whole_deepest_leave=true:=by
 rw[Fast.te9446332074065402090]
 kernel_rfl
end
structure Blt (mg:Str->Option Value):Prop where
 b_abs:mg "abs"=none
 b_enumerate:mg "enumerate"=none
 b_int:mg "int"=none
 b_len:mg "len"=none
 b_list:mg "list"=none
 b_min:mg "min"=none
 b_range:mg "range"=none
 b_sum:mg "sum"=none
 b_tuple:mg "tuple"=none
 b_zip:mg "zip"=none
structure Glb (K:W.Frag) (w:World) (mg:Str->Option Value):Prop where
 c_DEED_ROWS:IsCD K w mg "DEED_ROWS" deedRowsT
 c_MOST_FRAMES:∃ t,mg "MOST_FRAMES"=some (.int 20 t)
 c_MOST_FRAMES_OVER:∃ t,mg "MOST_FRAMES_OVER"=some (.int 17 t)
 c_RECKONINGS:IsCT K mg "RECKONINGS" [V.str "put",V.str "copy",V.str "plus",V.str "less",V.str "times"]
structure CHand (K:W.Frag) (C:Addr):Prop where
 cl:Cls K C
 n_program:NoAttr K C "program"
 n_frames:NoAttr K C "frames"
 n_news:NoAttr K C "news"
 n_gone:NoAttr K C "gone"
 n_left:NoAttr K C "left"
 n_end:NoAttr K C "end"
structure CChances (K:W.Frag) (C:Addr):Prop where
 cl:Cls K C
 n_when:NoAttr K C "when"
 n_asked:NoAttr K C "asked"
section
variable {P:Program} {w:World} {K:W.Frag} {mg:Str->Option Value} {base:Heap}
theorem sc__law_draw:FnScope ["bag","many","found"] ["bag","many"] (Zan Zc5):=by walk_at"fs"
theorem ZhS (B:Blt mg) (T__law_draw:TopFn K mg "_law_draw" Zc5 ["bag","many"]):Callee P w K mg base "_law_draw" 1 ["bag","many"] Zby:=by
 refine T__law_draw.ok2 sc__law_draw fun f cdv A outer s H v1 v2 Q E hr h=>?_
 have nd:=sc__law_draw.nd
 obtain ⟨b,l,n,rfl,rfl,⟨hn,hn2⟩,Bg,k⟩:=h
 obtain ⟨xs,i,m,st,c,hb,hl,hi,⟨hm0,hm1⟩,⟨hs0,hs1⟩,hxs,hlen⟩:=Bg.ex
 have nbl:l≠b:=Zmo hl hb (by
  intro z
  injection z with z
  cases xs <;> simp[bagL] at z)
 have hl2:∀ o,upd H b o l=some (.lst (xs.map V.int)):=fun o=>by rw[Zax nbl];exact hl
 refine' ZaB [some (.ref b),some (.int n),none] rfl ?hb ?hg
 case hb=>exact (Zaf (ZaZ (PW.pt (Zbk (Zar ZaX (Zai (k_ix (K:=K) rfl) (pv 0) Zaa (fun _ _=>rfl)) Zaa (Zau _)) (Zba (Zar ZhA (Zai (k_ix (K:=K) rfl) (pv 0) Zaa (fun _ _=>rfl)) (Zbb (ZdU (K:=K) rfl) (by rfl) B.b_len Zcu (Zav (Zai (k_ix (K:=K) rfl) (pv 0) Zaa (fun _ _=>rfl)) Zad)) (Zau _))))) (Zaf (Za3 (Zai (k_ix (K:=K) rfl) (Zai (k_ix (K:=K) rfl) (pv 0) Zaa (fun _ _=>rfl)) (Zai (k_ix (K:=K) rfl) (pv 0) Zaa (fun _ _=>rfl)) (fun _ _=>rfl)) (Zbq (pv 0) Zaa ZaO)) (Zal (Za3 (ZaN Zbx (Zai (k_ix (K:=K) rfl) (pv 0) Zaa (fun _ _=>rfl)) Zaa) (Zbq (pv 0) Zaa ZaO)))) (Zal (ZaZ (Zar ZaX (Zai (k_ix (K:=K) rfl) (pv 0) Zaa (fun _ _=>rfl)) Zaa (Zau _)) (Zaf (Za3 (ZaN Zbx (Zai (k_ix (K:=K) rfl) (pv 0) Zaa (fun _ _=>rfl)) Zaa) (Zbq (pv 0) Zaa ZaO)) (Zaf (Za3 (ZaN ZeF (ZaN Zbx (ZaN Zbx (ZaN Zbx (ZaN Zh8 (Zai (k_ix (K:=K) rfl) (pv 0) Zaa (fun _ _=>rfl)) Zaa) (ZaN ZjB Zaa (Zai (k_ix (K:=K) rfl) (pv 0) Zaa (fun _ _=>rfl)))) (ZaN ZjB Zaa (Zai (k_ix (K:=K) rfl) (pv 0) Zaa (fun _ _=>rfl)))) Zaa) Zaa) (Zbq (pv 0) Zaa ZaO)) (Zal (Zay (ZaN ZeF (ZaN ZfS (Zai (k_ix (K:=K) rfl) (pv 0) Zaa (fun _ _=>rfl)) Zaa) (pv 1)))))) ZaE))) (Zaf (ZdQ (i:=2) nd rfl (Or.inl rfl) (ZaN ZeF (Zai (k_ix (K:=K) rfl) (pv 0) Zaa (fun _ _=>rfl)) (pv 1))) (Zaf (Za3 (ZaN ZfS (Zai (k_ix (K:=K) rfl) (pv 0) Zaa (fun _ _=>rfl)) (pv 1)) (Zbq (pv 0) Zaa ZaO)) (Zal (Zay (pv 2))))))
 have fin:∀ (j:Nat) (m':Int),j<=xs.length->0<=m'->m'<=10 ^ 60->∀ H1,BSame b H H1->H1 b=some (.lst (bagL l j m' st c))->H1 l=some (.lst (xs.map V.int)) ->
   Q (.int (m' % n)) (upd H1 b (.lst (bagL l j (m' / n) st c))):=by
  intro j m' hj h0 h1 H1 bs hb1 hl1
  have hd0:0<=m' / n:=Int.ediv_nonneg h0 (Int.le_of_lt hn)
  have hd1:m' / n<=m':=Int.ediv_le_self _ h0
  refine k _ _ (Int.emod_nonneg _ (by lia)) (Int.emod_lt_of_pos _ hn) ⟨xs,j,m' / n,st,c,Zag,by rw[Zax nbl];exact hl1,hj,⟨hd0,by lia⟩,⟨hs0,hs1⟩,hxs,hlen⟩ (bs.trans BSame.wr)
 have tail:∀ (j:Nat) (m':Int) (σ2:St),σ2=[some (.ref b),some (.int n),none]->j<=xs.length->0<=m'->m'<=10 ^ 60->∀ H1,BSame b H H1->H1 b=some (.lst (bagL l j m' st c))->H1 l=some (.lst (xs.map V.int)) ->
   tSeq (tAsg (tOp (rI (fun _ j=>0 < j) fun i j=>.int (i % j)) (tOp (rIxA K) (tVar 0) (tC (.int 2))) (tVar 1)) (ZaI 2))
    (tSeq (tAsg (tOp (rI Zko fun i j=>.int (i / j)) (tOp (rIxA K) (tVar 0) (tC (.int 2))) (tVar 1)) (gSub (tVar 0) (tC (.int 2)) Zco)) (tRet (tVar 2))) { nx:=fun _ H'=>Q .non H',rt:=Q } σ2 H1:=by
  intro j m' σ2 e hj h0 h1 H1 bs hb1 hl1
  subst e
  walk_at"rd"
  refine Zak (v:=.int m') hb1 rfl ?_
  walk_at"rd"
  refine rd_I hn ?_
  walk_at"rd"
  refine Zak (v:=.int m') hb1 rfl ?_
  walk_at"rd"
  refine rd_I (Zip hn (by lia)) ?_
  walk_at"rd"
  refine Zbh (k:=2) hb1 rfl ?_
  walk_at"rd"
  exact fin j m' hj h0 h1 H1 bs hb1 hl1
 walk_at"rd"
 refine Zak (v:=.int m) hb rfl ?_
 walk_at"rd"
 refine Zbr (fun hm=>?_) (fun hm=>?_)
 ·walk_at"rd"
  refine Zak (v:=.int i) hb rfl ?_
  walk_at"rd"
  refine Zak (v:=.ref l) hb rfl ?_
  walk_at"rd"
  refine ZbD (SqL.of hl) ?_
  walk_at"rd"
  rw[length_map]
  refine Zbr (fun hi2=>?_) (fun hi2=>?_)
  ·walk_at"rd"
   refine Zak (v:=.ref l) hb rfl ?_
   walk_at"rd"
   refine Zak (v:=.int i) hb rfl ?_
   walk_at"rd"
   have hil:i < xs.length:=by lia
   have hxi:=hxs _ (getElem_mem hil)
   refine Zak (v:=.int xs[i]) hl (Zaw (n:=i) rfl (by rw[getElem?_map,getElem?_eq_getElem hil];rfl)) ?_
   walk_at"rd"
   refine Zbh (k:=2) hb rfl ?_
   walk_at"rd"
   refine Zak (v:=.int i) Zag rfl ?_
   walk_at"rd"
   refine Zbh (k:=1) Zag rfl ?_
   exact tail (i+1) xs[i] _ rfl (by lia) hxi.1 hxi.2 _ (BSame.wr.trans BSame.wr) Zag (by rw[Zax nbl];exact hl2 _)
  ·walk_at"rd"
   refine Zak (v:=.int m) hb rfl ?_
   walk_at"rd"
   refine ZaJ hm ?_
   walk_at"rd"
   refine Zak (v:=.int c) hb rfl ?_
   walk_at"rd"
   refine Zbh (k:=4) hb rfl ?_
   walk_at"rd"
   refine Zak (v:=.int st) Zag rfl ?_
   walk_at"rd"
   refine rd_I ⟨by decide,by decide,by lia⟩ ?_
   walk_at"rd"
   refine Zak (v:=.int st) Zag rfl ?_
   walk_at"rd"
   refine rd_I (.inl ⟨by decide,by decide⟩) ?_
   walk_at"rd"
   refine Zak (v:=.int (c+1)) Zag rfl ?_
   walk_at"rd"
   refine rd_I (.inl ⟨by decide,by decide⟩) ?_
   walk_at"rd"
   refine rd_I (by decide) ?_
   walk_at"rd"
   refine Zbh (k:=3) Zag rfl ?_
   walk_at"rd"
   generalize hst:(st ^ (3:Int).toNat+48271 * st+1013 * (c+1)+1) % 2147483647=st'
   have h0:0<=st':=by rw[<-hst];exact Int.emod_nonneg _ (by decide)
   have h1:st' < 2147483647:=by rw[<-hst];exact Int.emod_lt_of_pos _ (by decide)
   refine Zak (v:=.int st') Zag rfl ?_
   walk_at"rd"
   refine rd_I (Zip (by decide) (by decide +kernel)) ?_
   walk_at"rd"
   refine rd_I hn ?_
   refine k _ _ (Int.emod_nonneg _ (by lia)) (Int.emod_lt_of_pos _ hn) ⟨xs,i,m,st',c+1,Zag,by rw[Zax nbl];exact hl2 _,hi,⟨hm0,hm1⟩,⟨h0,h1⟩,hxs,hlen⟩ (BSame.wr.trans BSame.wr)
 ·walk_at"rd"
  refine Zak (v:=.int m) hb rfl ?_
  walk_at"rd"
  refine Zao hm ?_
  exact tail i m _ rfl hi hm0 hm1 H (BSame.refl _ _) hb hl
theorem sc__law_number:FnScope ["bag"] ["bag"] (Zan Zcj):=by walk_at"fs"
theorem Zf9 (T__law_number:TopFn K mg "_law_number" Zcj ["bag"]) (ZaP:Callee P w K mg base "_law_draw" 1 ["bag","many"] Zby):Callee P w K mg base "_law_number" 2 ["bag"] Zd6:=by
 refine T__law_number.ok1 sc__law_number fun f cdv A outer s H v1 Q E hr h=>?_
 have nd:=sc__law_number.nd
 obtain ⟨b,l,rfl,Bg,k⟩:=h
 refine' ZaB [some (.ref b)] rfl ?hb ?hg
 case hb=>exact (Zaf (ZaZ (Zar ZaX (ZaS ZaP hr.m (by rfl) (Zac (pv 0) (Zab Zaa Zad))) Zaa (Zau _)) (Zal (Zay (ZaN Zet (ZaN Zej (ZaN Zet (ZaS ZaP hr.m (by rfl) (Zac (pv 0) (Zab Zaa Zad))) Zaa) Zaa) (ZaS ZaP hr.m (by rfl) (Zac (pv 0) (Zc9 (ZaN Zh8 Zaa Zaa) Zad)))))) ZaE) (Zal (Zay (ZaN Zej (ZaS ZaP hr.m (by rfl) (Zac (pv 0) (Zab Zaa Zad))) Zaa))))
 walk_at"rd"
 refine use2 ⟨b,l,8,rfl,rfl,⟨by decide,by decide⟩,Bg,fun r H1 h0 h1 B1 b1=>?_⟩
 walk_at"rd"
 refine Zbr (fun _=>?_) (fun _=>?_)
 ·walk_at"rd"
  refine use2 ⟨b,l,2,rfl,rfl,⟨by decide,by decide⟩,B1,fun r2 H2 g0 g1 B2 b2=>?_⟩
  walk_at"rd"
  refine rd_I (Zj2 (by lia) (by decide +kernel)) ?_
  walk_at"rd"
  refine rd_I ZlI ?_
  walk_at"rd"
  refine use2 ⟨b,l,_,rfl,rfl,⟨by decide +kernel,by decide +kernel⟩,B2,fun r3 H3 f0 f1 B3 b3=>?_⟩
  rw[ten60] at f1
  refine rd_I (Zj2 (by lia) (by lia)) ?_
  refine k _ _ ?_ B3 ((b1.trans b2).trans b3)
  rw[Int.natAbs_mul]
  have e1:(r2 * 2 - 1).natAbs<=1:=by lia
  have e2:r3.natAbs<=10 ^ 60:=by lia
  calc (r2 * 2 - 1).natAbs * r3.natAbs<=1 * 10 ^ 60:=Nat.mul_le_mul e1 e2
   _=10 ^ 60:=by rw[Nat.one_mul]
 ·walk_at"rd"
  refine use2 ⟨b,l,9,rfl,rfl,⟨by decide,by decide⟩,B1,fun r2 H2 g0 g1 B2 b2=>?_⟩
  walk_at"rd"
  exact k _ _ (by lia) B2 (b1.trans b2)
theorem sc__law_bag:FnScope ["script","stir","cell"] ["script"] (Zan ZdC):=by walk_at"fs"
theorem ZiT (B:Blt mg) (T__law_bag:TopFn K mg "_law_bag" ZdC ["script"]):Callee P w K mg base "_law_bag" 1 ["script"] (Zi9 K):=by
 refine T__law_bag.ok1 sc__law_bag fun f cdv A outer s H v1 Q E hr h=>?_
 have nd:=sc__law_bag.nd
 obtain ⟨a,ns,rfl,hS,hlen,k⟩:=h
 refine' ZaB [some (.ref a),none,none] rfl ?hb ?hg
 case hb=>exact (Zaf (ZcS (i:=1) nd rfl (Or.inl rfl) Zaa) (Zaf (Zh4 PassesOwn.never rfl (Zdq (K:=K) rfl (ZcG (k_sl (K:=K) rfl) (pv 0) Zdn (Zdm Zaa))) (ZaA (i:=2) nd rfl (Or.inl rfl)) (Zal (ZdQ (i:=1) nd rfl (Or.inl rfl) (ZaN ZeF (ZaN Zbx (ZaN Zbx (ZaN ZjB (pv 1) Zaa) (ZaN ZeF (pv 2) Zaa)) Zaa) Zaa)))) (Zal (Zay (ZaH (ZcH (Zb1 (LN:=["cell"]) (FN:=[]) (fr:=[]) rfl (Zd0 (by rfl)) (Zdq (K:=K) rfl (ZcG (k_sl (K:=K) rfl) (pv 0) Zdn (Zdm Zaa))) (fun cl C fp pins s H=>(ZaA (i:=0) (show ((["cell"]:List Str)++([]:List Str)).Nodup by decide +kernel) rfl (Or.inl rfl))) (fun cl C fp pins s H=>ZbR) (fun cl C fp pins s H=>(ZaN ZeF (Zbb Zka (by rfl) B.b_abs bt_abs (Zac (pv 0) Zad)) (ZaN Zh8 Zaa Zaa)))) (Zab Zaa (Zab Zaa (Zac (pv 1) (Zab Zaa Zad))))))))))
 walk_at"rd"
 refine Zji hS fun p hp=>?_
 obtain ⟨ms,em,hm⟩:=ZjZ ns none (some 63)
 rw[em]
 refine ZgI (SqL.of Zag) ?_
 have s0:=Same.new (o:=.lst (ms.map V.int)) hp
 generalize hH0:upd H p (HO.lst (ms.map V.int))=H0 at s0
 have hp0:H0 p=some (.lst (ms.map V.int)):=by rw[<-hH0];exact Zag
 refine Zik (xs:=ms.map V.int) (fun i σ H1=>Ex2 fun st c2=>An4 (σ=[some (.ref a),some (.int st),c2]) (H1=H0) (0<=st) (st < 2147483647)) ⟨11,none,rfl,rfl,by decide,by decide⟩ (fun i σ H1 _ z_=>by obtain ⟨_,_,_,e,_⟩:=z_;rw[e];exact SqL.of hp0) ?_ ?_
 ·rintro i x σ H1 hx ⟨st,c2,rfl,rfl,h0,h1⟩
  obtain ⟨z,rfl,_⟩:=Zih hx
  walk_at"rd"
  refine rd_I (.inr ⟨by decide,by decide⟩) ?_
  walk_at"rd"
  refine rd_I (by decide) ?_
  walk_at"rd"
  refine rd_I (by decide) ?_
  walk_at"rd"
  exact ⟨_,_,rfl,rfl,Int.emod_nonneg _ (by decide),Int.emod_lt_of_pos _ (by decide)⟩
 ·rintro σ H1 ⟨st,c2,rfl,rfl,h0,h1⟩
  walk_at"rd"
  refine Zji (s0.seq hS) fun p2 hp2=>?_
  rw[em]
  refine ZgI (SqL.of Zag) ?_
  have s2:=Same.new (o:=.lst (ms.map V.int)) hp2
  generalize hH2:upd H1 p2 (HO.lst (ms.map V.int))=H2 at s2
  have hp2':H2 p2=some (.lst (ms.map V.int)):=by rw[<-hH2];exact Zag
  refine ZhL (xs:=ms.map V.int) (Zcv (by rw[length_map];lia)) (fun i ys σ H3=>An3 (∃ x1,σ=[x1]) (H3=H2) (∃ zs:List Int,ys=zs.map V.int/\∀ z∈zs,0<=z/\z<=10 ^ 60)) ⟨⟨none,rfl⟩,rfl,[],rfl,fun _ h=>by cases h⟩ (fun i ys σ H3 _ z_=>by obtain ⟨_,e,_⟩:=z_;rw[e];exact SqL.of hp2') ?_ ?_
  ·rintro i x ys σ H3 hx hle hlt ⟨⟨x1,rfl⟩,rfl,zs,rfl,hz⟩
   obtain ⟨z,rfl,_⟩:=Zih hx
   walk_at"rd"
   refine rd_I ZlI ?_
   refine rd_I (by decide +kernel) ?_
   rw[ten60]
   refine ⟨hlt,by simpa using hle,⟨_,rfl⟩,rfl,zs++[_],by rw[map_append];rfl,fun u hu=>?_⟩
   rcases mem_append.mp hu with hu|hu
   ·exact hz u hu
   ·obtain rfl:=mem_singleton.mp hu
    lia
  ·rintro ys σ H3 hyl ⟨⟨x1,rfl⟩,rfl,zs,rfl,hz⟩ l hl
   walk_at"rd"
   walk_at"mk";intro bb hbb
   have sA:=Same.new (o:=.lst (zs.map V.int)) hl
   have sB:=Same.new (o:=.lst [V.ref l,V.int 0,V.int 0,V.int st,V.int 0]) hbb
   have sall:=((s0.trans s2).trans sA).trans sB
   rw[length_map,length_map] at hyl
   exact k bb l _ (((s0.trans s2).trans sA).free hbb) sall ⟨zs,0,0,st,0,Zag,ZlN Zag hbb,Nat.zero_le _,⟨by decide,by decide⟩,⟨h0,h1⟩,hz,by lia⟩
inductive Pr_row_of (x y:V) (H:Hp) (Q:VK):Prop
 | mk (own P pp fr f at' bx d r) (_:x=.ref pp) (_:y=.ref fr) (_:PgAt own H P pp) (_:H fr=some (.lst [.int f,.int at',.ref bx])) (_:0<=f) (_:P[f.toNat]?=some d) (_:0<=at') (_:d.rows[at'.toNat]?=some r) (_:∀ v,Rep H (rowD (Rw.row r)) v->Q v H):Pr_row_of x y H Q
def ZeV:Sp:=sp2 (Pr_row_of)
theorem sc_row_of:FnScope ["program","frame"] ["program","frame"] (Zan Zea):=by walk_at"fs"
theorem Zlc (T_row_of:TopFn K mg "row_of" Zea ["program","frame"]):Callee P w K mg base "row_of" 1 ["program","frame"] ZeV:=by
 refine T_row_of.ok2 sc_row_of fun f cdv A outer s H v1 v2 Q E hr h=>?_
 have nd:=sc_row_of.nd
 obtain ⟨own,Pg,pp,fr,fi,at',bx,d,r,rfl,rfl,⟨vs,hv,_,hl,hd⟩,hf,f0,ed,a0,er,k⟩:=h
 refine' ZaB [some (.ref pp),some (.ref fr)] rfl ?hb ?hg
 case hb=>exact (Zal (Zay (Zai (k_ix (K:=K) rfl) (Zai (k_ix (K:=K) rfl) (Zai (k_ix (K:=K) rfl) (pv 0) (Zai (k_ix (K:=K) rfl) (pv 1) Zaa (fun _ _=>rfl)) (fun _ _=>rfl)) Zaa (fun _ _=>rfl)) (Zai (k_ix (K:=K) rfl) (pv 1) Zaa (fun _ _=>rfl)) (fun _ _=>rfl))))
 walk_at"rd"
 refine Zak (v:=.int fi) hf rfl ?_
 have hlt:fi.toNat < vs.length:=by rw[hl];exact (List.getElem?_eq_some_iff.mp ed).1
 obtain ⟨t,q,ys,e1,h1,h2,_,rr⟩:=hd _ _ _ ed (getElem?_eq_getElem hlt)
 refine Zak hv (Zaw (n:=fi.toNat) (by lia) (getElem?_eq_getElem hlt)) ?_
 rw[e1]
 walk_at"rd"
 refine Zaq (v:=.ref q) h1 rfl ?_
 walk_at"rd"
 refine Zak (v:=.int at') hf rfl ?_
 obtain ⟨u,eu,ru⟩:=rr.get (i:=at'.toNat) (d:=rowD r.row) (by unfold ZdN;rw[getElem?_map,er];rfl)
 refine Zak h2 (Zaw (n:=at'.toNat) (by lia) eu) ?_
 exact k u ru
theorem Zah {H:Hp} {r:Str×List D} {v:V} {Q:VK} (h:Rep H (rowD r) v) (q:Q (.str r.1) H):rIxA K v (.int 0) H Q:=Zfw (n:=0) h rfl rfl fun u ru=>by rw[Rep] at ru;rw[ru];exact q
theorem Zaz {H:Hp} {r:Str×List D} {v:V} {Q:VK} {i:Int} {n:Nat} {z:Int} (h:Rep H (rowD r) v) (hi:i=((n+1:Nat):Int)) (e:r.2[n]?=some (.int z)) (q:Q (.int z) H):rIxA K v (.int i) H Q:=Zjn (n:=n+1) h hi (by simpa [rowD] using e) q
inductive Pr_goes (x y:V) (H:Hp) (Q:VK):Prop
 | mk (r n) (_:Rep H (rowD r) x) (_:y=.int n) (_:Q (.bl (if r.1="zero" then decide (n=0) else decide (n < 0))) H):Pr_goes x y H Q
def Zhd:Sp:=sp2 (Pr_goes)
theorem sc_goes_to_row:FnScope ["row","number"] ["row","number"] (Zan Zcg):=by walk_at"fs"
theorem Zf6 (T_goes_to_row:TopFn K mg "goes_to_row" Zcg ["row","number"]):Callee P w K mg base "goes_to_row" 1 ["row","number"] Zhd:=by
 refine T_goes_to_row.ok2 sc_goes_to_row fun f cdv A outer s H v1 v2 Q E hr h=>?_
 have nd:=sc_goes_to_row.nd
 obtain ⟨r,n,rv,rfl,k⟩:=h
 refine' ZaB [some v1,some (.int n)] rfl ?hb ?hg
 case hb=>exact (Zal (Zay (ZdD (Zar ZaX (Zai (k_ix (K:=K) rfl) (pv 0) Zaa (fun _ _=>rfl)) Zat (Zau _)) (ZcN ZaX (pv 1) Zaa (Zau _)) (ZcN ZhA (pv 1) Zaa (Zau _)))))
 walk_at"rd"
 refine Zah rv ?_
 walk_at"rd"
 refine Zbr (fun e=>?_) (fun e=>?_)
 ·rw[if_pos e] at k
  walk_at"rd"
  exact k
 ·rw[if_neg e] at k
  walk_at"rd"
  exact k
inductive Pr_newfr (K:W.Frag) (x y z:V) (H:Hp) (Q:VK):Prop
 | mk (own P pp f q ns d) (_:x=.ref pp) (_:y=.int f) (_:z=.ref q) (_:PgAt own H P pp) (_:0<=f) (_:P[f.toNat]?=some d) (_:0<=d.boxes/\d.boxes<=1000) (_:H q=some (.lst ((ns:List Int).map V.int))) (_:(ns.length:Int)<=d.boxes) (_:∀ fr bx H',H fr=none->H bx=none->fr≠bx->Same H H'->H' fr=some (.lst [.int f,.int 0,.ref bx])->H' bx=some (.lst ((ns++List.replicate (d.boxes.toNat - ns.length) 0).map V.int))->Q (.ref fr) H'):Pr_newfr K x y z H Q
def ZfF (K:W.Frag):Sp:=sp3 (Pr_newfr K)
theorem sc_new_frame:FnScope ["program","f","numbers"] ["program","f","numbers"] (Zan ZcZ):=by walk_at"fs"
theorem ZhM (B:Blt mg) (T_new_frame:TopFn K mg "new_frame" ZcZ ["program","f","numbers"]):Callee P w K mg base "new_frame" 1 ["program","f","numbers"] (ZfF K):=by
 refine T_new_frame.ok3 sc_new_frame fun f cdv A outer s H v1 v2 v3 Q E hr h=>?_
 have nd:=sc_new_frame.nd
 obtain ⟨own,Pg,pp,fi,q,ns,d,rfl,rfl,rfl,⟨vs,hv,_,hl,hd⟩,f0,ed,⟨b0,b1⟩,hq,hns,k⟩:=h
 refine' ZaB [some (.ref pp),some (.int fi),some (.ref q)] rfl ?hb ?hg
 case hb=>exact (Zal (Zay (ZaH (Zac (pv 1) (Zab Zaa (Zc9 (ZaN Zek (pv 2) (ZaN Zh7 (ZaH (Zab Zaa Zad)) (ZaN Zej (Zai (k_ix (K:=K) rfl) (Zai (k_ix (K:=K) rfl) (pv 0) (pv 1) (fun _ _=>rfl)) Zaa (fun _ _=>rfl)) (Zbb (ZdU (K:=K) rfl) (by rfl) B.b_len Zcu (Zac (pv 2) Zad))))) Zad))))))
 walk_at"rd"
 walk_at"mk";intro p1 hp1
 have s1:=Same.new (o:=.lst ([(0:Int)].map V.int)) hp1
 have hlt:fi.toNat < vs.length:=by rw[hl];exact (List.getElem?_eq_some_iff.mp ed).1
 obtain ⟨t,q2,ys,e1,h1,h2,_,rr⟩:=hd _ _ _ ed (getElem?_eq_getElem hlt)
 walk_at"rd"
 refine Zak (s1 _ _ hv) (Zaw (n:=fi.toNat) (by lia) (getElem?_eq_getElem hlt)) ?_
 rw[e1]
 walk_at"rd"
 refine Zaq (v:=.int d.boxes) (s1 _ _ h1) rfl ?_
 walk_at"rd"
 refine ZbD (SqL.of (s1 _ _ hq)) ?_
 rw[length_map]
 walk_at"rd"
 refine Zhj Zag (by lia) (by lia) fun p2 hp2=>?_
 have s2:=Same.new (o:=.lst ((List.replicate (d.boxes - (ns.length:Int)).toNat (0:Int)).map V.int)) hp2
 walk_at"rd"
 refine ZeE ((s1.trans s2) _ _ hq) Zag (Za2 (by simp;lia)) fun p3 hp3=>?_
 have s3:=Same.new (o:=.lst (ns.map V.int++(List.replicate (d.boxes - (ns.length:Int)).toNat (0:Int)).map V.int)) hp3
 walk_at"mk";intro p4 hp4
 have s4:=Same.new (o:=.lst [V.int fi,V.int 0,V.ref p3]) hp4
 have s12:=s1.trans s2
 have s123:=s12.trans s3
 refine k p4 p3 _ (s123.free hp4) (s12.free hp3) (fun z=>?_) (s123.trans s4) Zag ?_
 ·rw[z,Zag] at hp4
  cases hp4
 ·rw[s4 _ _ Zag,map_append,show (d.boxes - (ns.length:Int)).toNat=d.boxes.toNat - ns.length by lia]
theorem Za8 {ns:List Int} {q:Int} (h:In0 q ns.length):atI (ns.map V.int) q=some (.int (ZaL ns q)):=by
 obtain ⟨h0,h1⟩:=h
 have hq:q.toNat < ns.length:=by lia
 refine Zaw (n:=q.toNat) (by lia) ?_
 rw[getElem?_map,getElem?_eq_getElem hq]
 simp[ZaL,hq]
theorem Zkh {ns:List Int} {q:Int} (h:In0 q ns.length):ZaL ns q∈ns:=by
 obtain ⟨h0,h1⟩:=h
 have hq:q.toNat < ns.length:=by lia
 have:ZaL ns q=ns[q.toNat]:=by simp[ZaL,hq]
 rw[this]
 exact getElem_mem hq
def ZiV (ns:List Int):Prop:=∀ x∈ns,x.natAbs < 2 ^ 8000
theorem big99 {n:Int} (h:n.natAbs<=99):n.natAbs < 2 ^ 8000:=Zis (Nat.le_trans h (by decide +kernel))
inductive Pr_reck (x y:V) (H:Hp) (Q:VK):Prop
 | mk (P many r bx ns p z) (_:Rep H (rowD (Rw.row r)) x) (_:y=.ref bx) (_:H bx=some (.lst ((ns:List Int).map V.int))) (_:Rw.Ok P ns.length many r) (_:ZiV ns) (_:r.calc ns=some (p,z)) (_:Q (.int z) H):Pr_reck x y H Q
def ZfE:Sp:=sp2 (Pr_reck)
theorem sc_reckoned:FnScope ["row","boxes"] ["row","boxes"] (Zan Zdw):=by walk_at"fs"
theorem ZiN (T_reckoned:TopFn K mg "reckoned" Zdw ["row","boxes"]):Callee P w K mg base "reckoned" 1 ["row","boxes"] ZfE:=by
 refine T_reckoned.ok2 sc_reckoned fun f cdv A outer s H v1 v2 Q E hr h=>?_
 have nd:=sc_reckoned.nd
 obtain ⟨Pg,many,r,bx,ns,p,z,rv,rfl,hb,ok,mu,hc,k⟩:=h
 refine' ZaB [some v1,some (.ref bx)] rfl ?hb ?hg
 case hb=>exact (Zaf (ZaZ (Zar ZaX (Zai (k_ix (K:=K) rfl) (pv 0) Zaa (fun _ _=>rfl)) Zat (Zau _)) (Zal (Zay (Zai (k_ix (K:=K) rfl) (pv 0) Zaa (fun _ _=>rfl)))) ZaE) (Zaf (ZaZ (Zar ZaX (Zai (k_ix (K:=K) rfl) (pv 0) Zaa (fun _ _=>rfl)) Zat (Zau _)) (Zal (Zay (Zai (k_ix (K:=K) rfl) (pv 1) (Zai (k_ix (K:=K) rfl) (pv 0) Zaa (fun _ _=>rfl)) (fun _ _=>rfl)))) ZaE) (Zaf (ZaZ (Zar ZaX (Zai (k_ix (K:=K) rfl) (pv 0) Zaa (fun _ _=>rfl)) Zat (Zau _)) (Zal (Zay (ZaN Zbx (Zai (k_ix (K:=K) rfl) (pv 1) (Zai (k_ix (K:=K) rfl) (pv 0) Zaa (fun _ _=>rfl)) (fun _ _=>rfl)) (Zai (k_ix (K:=K) rfl) (pv 1) (Zai (k_ix (K:=K) rfl) (pv 0) Zaa (fun _ _=>rfl)) (fun _ _=>rfl))))) ZaE) (Zaf (ZaZ (Zar ZaX (Zai (k_ix (K:=K) rfl) (pv 0) Zaa (fun _ _=>rfl)) Zat (Zau _)) (Zal (Zay (ZaN Zej (Zai (k_ix (K:=K) rfl) (pv 1) (Zai (k_ix (K:=K) rfl) (pv 0) Zaa (fun _ _=>rfl)) (fun _ _=>rfl)) (Zai (k_ix (K:=K) rfl) (pv 1) (Zai (k_ix (K:=K) rfl) (pv 0) Zaa (fun _ _=>rfl)) (fun _ _=>rfl))))) ZaE) (Zal (Zay (ZaN Zet (Zai (k_ix (K:=K) rfl) (pv 1) (Zai (k_ix (K:=K) rfl) (pv 0) Zaa (fun _ _=>rfl)) (fun _ _=>rfl)) (Zai (k_ix (K:=K) rfl) (pv 0) Zaa (fun _ _=>rfl)))))))))
 cases r with
 | put p' n =>
  cases hc
  walk_at"rd"
  refine Zah rv (rd_c (Zb0 (Zc8 (ZaJ rfl ?_))))
  walk_at"rd"
  exact Zaz (n:=1) rv rfl rfl k
 | copy p' q =>
  cases hc
  walk_at"rd"
  refine Zah rv (rd_c (Zb0 (Zc8 (Zao (by simp only[Rw.row];decide) ?_))))
  walk_at"rd"
  refine Zah rv (rd_c (Zb0 (Zc8 (ZaJ rfl ?_))))
  walk_at"rd"
  exact Zaz (n:=1) rv rfl rfl (Zak hb (Za8 ok.2) k)
 | plus p' q r =>
  cases hc
  walk_at"rd"
  refine Zah rv (rd_c (Zb0 (Zc8 (Zao (by simp only[Rw.row];decide) ?_))))
  walk_at"rd"
  refine Zah rv (rd_c (Zb0 (Zc8 (Zao (by simp only[Rw.row];decide) ?_))))
  walk_at"rd"
  refine Zah rv (rd_c (Zb0 (Zc8 (ZaJ rfl ?_))))
  walk_at"rd"
  refine Zaz (n:=1) rv rfl rfl (Zak hb (Za8 ok.2.1) ?_)
  walk_at"rd"
  refine Zaz (n:=2) rv rfl rfl (Zak hb (Za8 ok.2.2) ?_)
  walk_at"rd"
  exact k
 | less p' q r =>
  cases hc
  walk_at"rd"
  refine Zah rv (rd_c (Zb0 (Zc8 (Zao (by simp only[Rw.row];decide) ?_))))
  walk_at"rd"
  refine Zah rv (rd_c (Zb0 (Zc8 (Zao (by simp only[Rw.row];decide) ?_))))
  walk_at"rd"
  refine Zah rv (rd_c (Zb0 (Zc8 (Zao (by simp only[Rw.row];decide) ?_))))
  walk_at"rd"
  refine Zah rv (rd_c (Zb0 (Zc8 (ZaJ rfl ?_))))
  walk_at"rd"
  refine Zaz (n:=1) rv rfl rfl (Zak hb (Za8 ok.2.1) ?_)
  walk_at"rd"
  refine Zaz (n:=2) rv rfl rfl (Zak hb (Za8 ok.2.2) ?_)
  walk_at"rd"
  exact k
 | times p' q n =>
  cases hc
  walk_at"rd"
  refine Zah rv (rd_c (Zb0 (Zc8 (Zao (by simp only[Rw.row];decide) ?_))))
  walk_at"rd"
  refine Zah rv (rd_c (Zb0 (Zc8 (Zao (by simp only[Rw.row];decide) ?_))))
  walk_at"rd"
  refine Zah rv (rd_c (Zb0 (Zc8 (Zao (by simp only[Rw.row];decide) ?_))))
  walk_at"rd"
  refine Zah rv (rd_c (Zb0 (Zc8 (Zao (by simp only[Rw.row];decide) ?_))))
  walk_at"rd"
  refine Zaz (n:=1) rv rfl rfl (Zak hb (Za8 ok.2.1) ?_)
  walk_at"rd"
  refine Zaz (n:=2) rv rfl rfl ?_
  exact rd_I ⟨mu _ (Zkh ok.2.1),big99 ok.2.2⟩ k
 | _=>cases hc
inductive Pr_behind (x y z:V) (H:Hp) (Q:VK):Prop
 | mk (P many r bx ns at') (_:Rep H (rowD (Rw.row r)) x) (_:y=.int at') (_:z=.ref bx) (_:H bx=some (.lst ((ns:List Int).map V.int))) (_:Rw.Ok P ns.length many r) (_:∀ H',Same H H'->Q (.int (r.next ns at')) H'):Pr_behind x y z H Q
def Zgq:Sp:=sp3 (Pr_behind)
theorem in_two {x:Str}:inV (.str x) [V.str "zero",V.str "below"]=decide (x="zero"\/x="below"):=by
 simp only[inV,eqV,any_cons,any_nil,Bool.or_false]
 rw[Bool.eq_iff_iff]
 simp
 constructor
 ·rintro (z|z)
  ·exact .inl z.symm
  ·exact .inr z.symm
 ·rintro (z|z)
  ·exact .inl z.symm
  ·exact .inr z.symm
theorem sc_row_behind:FnScope ["row","at","boxes"] ["row","at","boxes"] (Zan Zcy):=by walk_at"fs"
theorem ZgW (T_row_behind:TopFn K mg "row_behind" Zcy ["row","at","boxes"]) (Cgoes_to_row:Callee P w K mg base "goes_to_row" 1 ["row","number"] Zhd):Callee P w K mg base "row_behind" 2 ["row","at","boxes"] Zgq:=by
 refine T_row_behind.ok3 sc_row_behind fun f cdv A outer s H v1 v2 v3 Q E hr h=>?_
 have nd:=sc_row_behind.nd
 obtain ⟨Pg,many,r,bx,ns,at',rv,rfl,rfl,hb,ok,k⟩:=h
 refine' ZaB [some v1,some (.int at'),some (.ref bx)] rfl ?hb ?hg
 case hb=>exact (Zaf (ZaZ (Zar ZaX (Zai (k_ix (K:=K) rfl) (pv 0) Zaa (fun _ _=>rfl)) Zat (Zau _)) (Zal (Zay (Zai (k_ix (K:=K) rfl) (pv 0) Zaa (fun _ _=>rfl)))) ZaE) (Zaf (ZaZ (PW.pt (Zbk (Zar (k_in (K:=K) rfl) (Zai (k_ix (K:=K) rfl) (pv 0) Zaa (fun _ _=>rfl)) (Zap (Zab Zat (Zab Zat Zad))) (by with_unfolding_all rfl)) (Zba (ZdK (ZaS Cgoes_to_row hr.m (by rfl) (Zac (pv 0) (Zav (Zai (k_ix (K:=K) rfl) (pv 2) (Zai (k_ix (K:=K) rfl) (pv 0) Zaa (fun _ _=>rfl)) (fun _ _=>rfl)) Zad))))))) (Zal (Zay (Zai (k_ix (K:=K) rfl) (pv 0) Zaa (fun _ _=>rfl)))) ZaE) (Zal (Zay (ZaN Zbx (pv 1) Zaa)))))
 by_cases hj:r.row.1="jump"
 ·cases r with
  | jump t =>
   walk_at"rd"
   refine Zah rv (rd_c (Zb0 (Zc8 (ZaJ rfl ?_))))
   walk_at"rd"
   exact Zaz (n:=0) rv rfl rfl (k H (Same.refl _))
  | _=>exact absurd hj (by simp only[Rw.row];decide)
 ·walk_at"rd"
  refine Zah rv (rd_c (Zb0 (Zc8 (Zao hj ?_))))
  walk_at"rd"
  refine Zah rv ?_
  walk_at"rd"
  walk_at"mk";intro p0 hp0
  have s0:=Same.new (o:=.tup [V.str "zero",V.str "below"]) hp0
  refine ⟨p0,_,rfl,.inr (SqT.of Zag),rfl,rfl,?_⟩
  rw[if_neg Bool.false_ne_true,in_two]
  walk_at"rd"
  by_cases hz:r.row.1="zero"\/r.row.1="below"
  ·refine ZaJ hz ?_
   cases r with
   | zero p t =>
    walk_at"rd"
    refine Zaz (n:=0) (rv.mono s0.ts) rfl rfl (Zak (s0 _ _ hb) (Za8 ok.1) ?_)
    walk_at"rd"
    refine use2 ⟨_,_,rv.mono s0.ts,rfl,?_⟩
    rw[if_pos (show (Rw.row (.zero p t)).1="zero" from rfl)]
    walk_at"rd"
    refine Zbr (fun e=>?_) (fun e=>?_)
    ·walk_at"rd"
     have q:=k _ s0
     rw[show Rw.next ns at' (.zero p t)=t from if_pos e] at q
     exact Zaz (n:=1) (rv.mono s0.ts) rfl rfl q
    ·walk_at"rd"
     have q:=k _ s0
     rw[show Rw.next ns at' (.zero p t)=at'+1 from if_neg e] at q
     exact q
   | below p t =>
    walk_at"rd"
    refine Zaz (n:=0) (rv.mono s0.ts) rfl rfl (Zak (s0 _ _ hb) (Za8 ok.1) ?_)
    walk_at"rd"
    refine use2 ⟨_,_,rv.mono s0.ts,rfl,?_⟩
    rw[if_neg (show ¬ (Rw.row (.below p t)).1="zero" by simp only[Rw.row];decide)]
    walk_at"rd"
    refine Zbr (fun e=>?_) (fun e=>?_)
    ·walk_at"rd"
     have q:=k _ s0
     rw[show Rw.next ns at' (.below p t)=t from if_pos e] at q
     exact Zaz (n:=1) (rv.mono s0.ts) rfl rfl q
    ·walk_at"rd"
     have q:=k _ s0
     rw[show Rw.next ns at' (.below p t)=at'+1 from if_neg e] at q
     exact q
   | _=>exact absurd hz (by simp only[Rw.row];decide)
  ·refine Zao hz ?_
   walk_at"rd"
   have hn:r.next ns at'=at'+1:=by
    cases r with
    | jump t=>exact absurd rfl hj
    | zero p t=>exact absurd (.inl rfl) hz
    | below p t=>exact absurd (.inr rfl) hz
    | _=>rfl
   rw[hn] at k
   exact k _ s0
variable {C:Addr}
theorem Zdb {fz:List FZ} {z:FZ}:atI ((fz++[z]).map fun z=>V.ref z.1.1) (-1)=some (.ref z.1.1):=by
 rw[map_append]
 exact Zge
theorem ZfK {H:Hp}:Rep H .non .non:=by rw[Rep]
inductive Pr_end_at (C:Addr) (x y:V) (H:Hp) (Q:VK):Prop
 | mk (p dx pp pf pn pl fz z P h ve r many) (_:x=.ref p) (_:HA C p dx pp pf pn pl (fz++[z]) H P h ve) (_:Rep H (rowD (Rw.row r)) y) (_:Rw.Ok P z.2.2.2.length many r) (_:∀ v H',Same H H'->Rep H' (En.d (ZbO h z.2 r)) v->Q v H'):Pr_end_at C x y H Q
def Zgm (C:Addr):Sp:=sp2 (Pr_end_at C)
theorem sc_Hand_end_at:FnScope ["self","row","frame"] ["self","row"] (Zan Zck):=by walk_at"fs"
theorem Zga (B:Blt mg) (G:Glb K w mg) (HHand:CHand K C) (T_Hand_end_at:TopM K C "end_at" "Hand.end_at" Zck ["self","row"]):MCal P w K mg base C "end_at" 1 ["self","row"] (Zgm C):=by
 refine T_Hand_end_at.ok2 sc_Hand_end_at fun f cdv A outer s H v1 v2 Q E hr hh=>?_
 have nd:=sc_Hand_end_at.nd
 obtain ⟨p,dx,pp,pf,pn,pl,fz,z,Pg,h,ve,r,many,rfl,a,rv,ok,k⟩:=hh
 refine' ZaB [some (.ref p),some v2,none] rfl ?hb ?hg
 case hb=>exact (Zaf (Zbd (i:=2) nd rfl (Or.inl rfl) (Zai (k_ix (K:=K) rfl) (Zbj (K:=K) rfl (pv 0) rfl) (Zcp ZbB Zaa) (fun _ _=>rfl))) (Zaf (ZaZ (PW.pt (Zbk (Zar ZaX (Zai (k_ix (K:=K) rfl) (pv 1) Zaa (fun _ _=>rfl)) Zat (Zau _)) (Zba (Zar ZaX (Zbb (ZdU (K:=K) rfl) (by rfl) B.b_len Zcu (Zbc (Zbj (K:=K) rfl (pv 0) rfl) Zad)) Zaa (Zau _))))) (Zal (Zay (Zap (Zab Zat (Zav (Zai (k_ix (K:=K) rfl) (Zai (k_ix (K:=K) rfl) (pv 2) Zaa (fun _ _=>rfl)) (Zai (k_ix (K:=K) rfl) (pv 1) Zaa (fun _ _=>rfl)) (fun _ _=>rfl)) Zad))))) ZaE) (Zaf (ZaZ (PW.pt (Zbk (Zar ZaX (Zai (k_ix (K:=K) rfl) (pv 1) Zaa (fun _ _=>rfl)) Zat (Zau _)) (Zba (Zar ZaX (Zbb (ZdU (K:=K) rfl) (by rfl) B.b_len Zcu (Zbc (Zbj (K:=K) rfl (pv 0) rfl) Zad)) Zaa (Zau _))))) (Zal (Zay (Zap (Zab Zat (Zav (Zai (k_ix (K:=K) rfl) (pv 2) Zaa (fun _ _=>rfl)) (Zav (Zai (k_ix (K:=K) rfl) (pv 2) Zaa (fun _ _=>rfl)) Zad)))))) ZaE) (Zaf (ZaZ (PW.pt (Zbk (Zar ZaX (Zai (k_ix (K:=K) rfl) (pv 1) Zaa (fun _ _=>rfl)) Zat (Zau _)) (Zba (Zar op_ge (Zbb (ZdU (K:=K) rfl) (by rfl) B.b_len Zcu (Zbc (Zbj (K:=K) rfl (pv 0) rfl) Zad)) (Zjy (by rfl) G.c_MOST_FRAMES) (Zau _))))) (Zal (Zay (Zap (Zab Zat (Zav (Zai (k_ix (K:=K) rfl) (pv 2) Zaa (fun _ _=>rfl)) (Zav (Zai (k_ix (K:=K) rfl) (pv 2) Zaa (fun _ _=>rfl)) Zad)))))) ZaE) (Zal (Zay Zcr))))))
 have hfl:h.frames.length=fz.length+1:=by rw[<-a.fr];simp
 have z1:=a.z1 (z:=z) (by simp)
 have z2:=a.z2 (z:=z) (by simp)
 walk_at"rd"
 refine ZaU a.obj HHand.cl HHand.n_frames Zbn ?_
 walk_at"rd"
 refine Zak a.fl Zdb ?_
 walk_at"rd"
 refine Zah rv ?_
 walk_at"rd"
 by_cases hb:r.row.1="back"
 ·refine ZaJ hb ?_
  walk_at"rd"
  refine ZaU a.obj HHand.cl HHand.n_frames Zbn ?_
  walk_at"rd"
  refine ZbD (SqL.of a.fl) ?_
  rw[length_map]
  walk_at"rd"
  cases r with
  | back q =>
   refine Zbr (fun e=>?_) (fun e=>?_)
   ·walk_at"rd"
    refine Zak (v:=.ref z.1.2) z1 rfl ?_
    walk_at"rd"
    refine Zaz (n:=0) rv rfl rfl ?_
    refine Zak z2 (Za8 ok) ?_
    walk_at"rd"
    walk_at"mk";intro t ht
    have he:ZbO h z.2 (.back q)=some (.back (ZaL z.2.2.2 q)):=if_pos (by rw[hfl];simp at e;lia)
    refine k _ _ (Same.new ht) ?_
    rw[he]
    exact ZbA Zag (Zas (by rw[Rep]) (Zas ZaR ZaM))
   ·have he:ZbO h z.2 (.back q)=none:=if_neg (by rw[hfl];simp at e;lia)
    rw[he] at k
    walk_at"rd"
    refine Zah rv ?_
    walk_at"rd"
    refine Zao (by simp only[Rw.row];decide) ?_
    walk_at"rd"
    refine Zah rv ?_
    walk_at"rd"
    refine Zao (by simp only[Rw.row];decide) ?_
    walk_at"rd"
    exact k _ _ (Same.refl _) ZfK
  | _=>exact absurd hb (by simp only[Rw.row];decide)
 ·refine Zao hb ?_
  walk_at"rd"
  refine Zah rv ?_
  walk_at"rd"
  by_cases ht:r.row.1="take"
  ·refine ZaJ ht ?_
   walk_at"rd"
   refine ZaU a.obj HHand.cl HHand.n_left Zfa ?_
   walk_at"rd"
   refine ZbD (SqL.of a.ll) ?_
   rw[length_map]
   walk_at"rd"
   cases r with
   | take q =>
    refine Zbr (fun e=>?_) (fun e=>?_)
    ·walk_at"rd"
     refine Zak (v:=.int z.2.1) z1 rfl ?_
     walk_at"rd"
     refine Zak (v:=.int z.2.2.1) z1 rfl ?_
     walk_at"rd"
     walk_at"mk";intro t ht
     have he:ZbO h z.2 (.take q)=some (.dry z.2.1 z.2.2.1):=if_pos (eq_nil_of_length_eq_zero (by lia))
     refine k _ _ (Same.new ht) ?_
     rw[he]
     exact ZbA Zag (Zas (by rw[Rep]) (Zas ZaR (Zas ZaR ZaM)))
    ·have he:ZbO h z.2 (.take q)=none:=if_neg (fun e'=>e (by rw[e'];rfl))
     rw[he] at k
     walk_at"rd"
     refine Zah rv ?_
     walk_at"rd"
     refine Zao (by simp only[Rw.row];decide) ?_
     walk_at"rd"
     exact k _ _ (Same.refl _) ZfK
   | _=>exact absurd ht (by simp only[Rw.row];decide)
  ·refine Zao ht ?_
   walk_at"rd"
   refine Zah rv ?_
   walk_at"rd"
   by_cases hc:r.row.1="call"
   ·refine ZaJ hc ?_
    walk_at"rd"
    refine ZaU a.obj HHand.cl HHand.n_frames Zbn ?_
    walk_at"rd"
    refine ZbD (SqL.of a.fl) ?_
    rw[length_map]
    walk_at"rd"
    cases r with
    | call q g qs =>
     refine Zbr (fun e=>?_) (fun e=>?_)
     ·walk_at"rd"
      refine Zak (v:=.int z.2.1) z1 rfl ?_
      walk_at"rd"
      refine Zak (v:=.int z.2.2.1) z1 rfl ?_
      walk_at"rd"
      walk_at"mk";intro t ht
      have he:ZbO h z.2 (.call q g qs)=some (.deep z.2.1 z.2.2.1):=if_pos (by rw[hfl];simp at e;lia)
      refine k _ _ (Same.new ht) ?_
      rw[he]
      exact ZbA Zag (Zas (by rw[Rep]) (Zas ZaR (Zas ZaR ZaM)))
     ·have he:ZbO h z.2 (.call q g qs)=none:=if_neg (by rw[hfl];simp at e;lia)
      rw[he] at k
      walk_at"rd"
      exact k _ _ (Same.refl _) ZfK
    | _=>exact absurd hc (by simp only[Rw.row];decide)
   ·refine Zao hc ?_
    have he:ZbO h z.2 r=none:=by
     cases r with
     | back q=>exact absurd rfl hb
     | take q=>exact absurd rfl ht
     | call q g qs=>exact absurd rfl hc
     | _=>rfl
    rw[he] at k
    walk_at"rd"
    exact k _ _ (Same.refl _) ZfK
variable {C:Addr}
theorem HA.fresh {p dx pp pf pn pl:Addr} {fz:List FZ} {H:Hp} {Pg:List Df} {h:HS} {ve:V} (a:HA C p dx pp pf pn pl fz H Pg h ve) {b:Addr} (e:H b=none):b∉ownA p pf pn pl fz:=fun m=>by
 rw[<-Zb2 (C:=C) (dx:=dx) (pp:=pp) (h:=h) (ve:=ve)] at m
 obtain ⟨x,hx,rfl⟩:=mem_map.mp m
 rw[a.all x hx] at e
 cases e
inductive Pr_do_own (C:Addr) (x y u:V) (H:Hp) (Q:VK):Prop
 | mk (p dx pp pf pn pl fz z P h ve r many) (_:x=.ref p) (_:HA C p dx pp pf pn pl (fz++[z]) H P h ve) (_:Rep H (rowD (Rw.row r)) y) (_:u=.ref z.1.2) (_:Rw.Ok P z.2.2.2.length many r) (_:ZiV z.2.2.2) (_:∀ q,r=.take q->h.left≠[]) (_:h.news.length<=200000) (_:∀ H',HA C p dx pp pf pn pl (fz++[(z.1,(z.2.1,z.2.2.1,(r.own3 z.2.2.2 h.left h.news).1))]) H' P { h with frames:=fz.map (·.2)++[(z.2.1,z.2.2.1,(r.own3 z.2.2.2 h.left h.news).1)],left:=(r.own3 z.2.2.2 h.left h.news).2.1,news:=(r.own3 z.2.2.2 h.left h.news).2.2 } ve->OSame (ownA p pf pn pl (fz++[z])) H H'->Q .non H'):Pr_do_own C x y u H Q
def Zgo (C:Addr):Sp:=sp3 (Pr_do_own C)
theorem sc_Hand_do_own:FnScope ["self","row","boxes"] ["self","row","boxes"] (Zan Zcm):=by walk_at"fs"
theorem Zgc (B:Blt mg) (G:Glb K w mg) (HHand:CHand K C) (T_Hand_do_own:TopM K C "do_own" "Hand.do_own" Zcm ["self","row","boxes"]) (Creckoned:Callee P w K mg base "reckoned" 1 ["row","boxes"] ZfE):MCal P w K mg base C "do_own" 2 ["self","row","boxes"] (Zgo C):=by
 refine T_Hand_do_own.ok3 sc_Hand_do_own fun f cdv A outer s H v1 v2 v3 Q E hr hh=>?_
 have nd:=sc_Hand_do_own.nd
 obtain ⟨p,dx,pp,pf,pn,pl,fz,z,Pg,h,ve,r,many,rfl,a,rv,rfl,ok,mu,tk,few,k⟩:=hh
 refine' ZaB [some (.ref p),some v2,some (.ref z.1.2)] rfl ?hb ?hg
 case hb=>exact (Zal (ZaZ (Zar ZaX (Zai (k_ix (K:=K) rfl) (pv 1) Zaa (fun _ _=>rfl)) Zat (Zau _)) (Zal (Zbm (k_bm (K:=K) rfl PySem.F.plainAttrs_list PySem.F.slot_list_append PySem.F.type_list_append ZbN (Zbj (K:=K) rfl (pv 0) rfl) (Zav (Zai (k_ix (K:=K) rfl) (pv 2) (Zai (k_ix (K:=K) rfl) (pv 1) Zaa (fun _ _=>rfl)) (fun _ _=>rfl)) Zad)))) (Zal (ZaZ (Zar ZaX (Zai (k_ix (K:=K) rfl) (pv 1) Zaa (fun _ _=>rfl)) Zat (Zau _)) (Zal (Za3 (k_bm (K:=K) rfl PySem.F.plainAttrs_list PySem.F.slot_list_pop PySem.F.type_list_pop ZdF (Zbj (K:=K) rfl (pv 0) rfl) (Zab Zaa Zad)) (Zbq (pv 2) (Zai (k_ix (K:=K) rfl) (pv 1) Zaa (fun _ _=>rfl)) ZaO))) (Zal (ZaZ (Zar (k_in (K:=K) rfl) (Zai (k_ix (K:=K) rfl) (pv 1) Zaa (fun _ _=>rfl)) (Zmf (K:=K) (by rfl) G.c_RECKONINGS) (by with_unfolding_all rfl)) (Zal (Za3 (ZaS Creckoned hr.m (by rfl) (Zac (pv 1) (Zac (pv 2) Zad))) (Zbq (pv 2) (Zai (k_ix (K:=K) rfl) (pv 1) Zaa (fun _ _=>rfl)) ZaO))) ZaE))))))
 have z2:=a.z2 (z:=z) (by simp)
 have hz:h={ h with frames:=fz.map (·.2)++[(z.2.1,z.2.2.1,z.2.2.2)],left:=h.left,news:=h.news }:=by
  have:=a.fr
  rw[map_append] at this
  cases h
  simp at this ⊢
  exact this.symm
 walk_at"rd"
 refine Zah rv ?_
 walk_at"rd"
 have nix:r.own3 z.2.2.2 h.left h.news=(z.2.2.2,h.left,h.news)->Q .non H:=fun e=>by
  rw[e] at k
  refine k H ?_ (OSame.refl _ _)
  have a':=a
  rw[hz] at a'
  exact a'
 by_cases hb:r.row.1="tell"
 ·refine ZaJ hb ?_
  cases r with
  | tell q =>
   walk_at"rd"
   refine ZaU a.obj HHand.cl HHand.n_news ZhF ⟨.inl ⟨rfl,_,SqL.of a.nl⟩,?_⟩
   walk_at"rd"
   refine Zaz (n:=0) rv rfl rfl ?_
   refine Zak z2 (Za8 ok) ?_
   walk_at"rd"
   refine ZbM a.nl (Nat.lt_of_le_of_lt (show (h.news.map V.int).length<=200000 by rw[length_map];exact few) (by rw[sizeLine_eq];decide)) ?_
   have e:h.news.map V.int++[V.int (ZaL z.2.2.2 q)]=(h.news++[ZaL z.2.2.2 q]).map V.int:=by simp
   rw[e]
   obtain ⟨a1,o1⟩:=a.setNews (h.news++[ZaL z.2.2.2 q])
   walk_at"rd"
   refine k _ ?_ o1
   rw[hz] at a1
   exact a1
  | _=>exact absurd hb (by simp only[Rw.row];decide)
 ·refine Zao hb ?_
  walk_at"rd"
  refine Zah rv ?_
  walk_at"rd"
  by_cases ht:r.row.1="take"
  ·refine ZaJ ht ?_
   cases r with
   | take q =>
    obtain ⟨n,rest,hl⟩:∃ n rest,h.left=n::rest:=by
     cases e:h.left with
     | nil=>exact absurd e (tk q rfl)
     | cons n rest=>exact ⟨n,rest,rfl⟩
    walk_at"rd"
    refine ZaU a.obj HHand.cl HHand.n_left Zfa ⟨.inl ⟨rfl,_,SqL.of a.ll⟩,?_⟩
    walk_at"rd"
    refine ⟨pl,_,0,0,.int n,rfl,rfl,a.ll,by decide,by decide,?_,by rw[hl];rfl,?_⟩
    ·rw[hl];simp[seqIndex?]
    have e:(h.left.map V.int).eraseIdx 0=rest.map V.int:=by rw[hl];rfl
    rw[e]
    obtain ⟨a1,o1⟩:=a.setLeft rest
    have rv1:=rv.mono (o1.ts a.notup)
    walk_at"rd"
    refine Zaz (n:=0) rv1 rfl rfl ?_
    have z2':=a1.z2 (z:=z) (by simp)
    have hq:q.toNat < z.2.2.2.length:=by have:=ok.1;have:=ok.2;lia
    refine Zbh (k:=q.toNat) z2' (ZgF (by have:=ok.1;lia) (by rw[length_map];exact hq)) ?_
    rw[Zdp]
    obtain ⟨a2,o2⟩:=a1.setBox (Zbz z.2.2.2 q n)
    refine k _ ?_ (o1.trans o2 fun x hx=>.inl hx)
    have e3:Rw.own3 z.2.2.2 h.left h.news (.take q)=(Zbz z.2.2.2 q n,rest,h.news):=by simp[Rw.own3,hl]
    rw[e3]
    exact a2
   | _=>exact absurd ht (by simp only[Rw.row];decide)
  ·refine Zao ht ?_
   walk_at"rd"
   refine Zah rv ?_
   refine rd_ct fun ac hct=>?_
   refine ⟨ac,_,rfl,.inr (hct H),rfl,rfl,?_⟩
   rw[if_neg Bool.false_ne_true]
   have calc_way:∀ q v,r.calc z.2.2.2=some (q,v)->In0 q z.2.2.2.length->r.row.2[0]?=some (.int q)->r.own3 z.2.2.2 h.left h.news=(Zbz z.2.2.2 q v,h.left,h.news)->inV (.str r.row.1) [V.str "put",V.str "copy",V.str "plus",V.str "less",V.str "times"]=true ->
     ∃ k',V.bl (inV (.str r.row.1) [V.str "put",V.str "copy",V.str "plus",V.str "less",V.str "times"])=V.bl k'/\if k'=true then tAsg (ZaQ ZfE [] E0 (Zae (tVar 1) (Zae (tVar 2) tNil))) (gSub (tVar 2) (tOp (rIxA K) (tVar 1) (tC (.int 1))) Zco) { nx:=fun _ H'=>Q .non H',rt:=Q } [some (.ref p),some v2,some (.ref z.1.2)] H else Q .non H:=by
    intro q v hc hq hr0 ho hin
    rw[hin]
    refine ⟨true,rfl,iteT ?_⟩
    walk_at"rd"
    refine use2 ⟨Pg,many,r,z.1.2,z.2.2.2,q,v,rv,rfl,z2,ok,mu,hc,?_⟩
    walk_at"rd"
    refine Zaz (n:=0) rv rfl hr0 ?_
    have hq':q.toNat < z.2.2.2.length:=by have:=hq.1;have:=hq.2;lia
    refine Zbh (k:=q.toNat) z2 (ZgF (by have:=hq.1;lia) (by rw[length_map];exact hq')) ?_
    rw[Zdp]
    obtain ⟨a2,o2⟩:=a.setBox (Zbz z.2.2.2 q v)
    refine k _ ?_ o2
    rw[ho]
    exact a2
   have no_way:r.own3 z.2.2.2 h.left h.news=(z.2.2.2,h.left,h.news)->inV (.str r.row.1) [V.str "put",V.str "copy",V.str "plus",V.str "less",V.str "times"]=false ->
     ∃ k',V.bl (inV (.str r.row.1) [V.str "put",V.str "copy",V.str "plus",V.str "less",V.str "times"])=V.bl k'/\if k'=true then tAsg (ZaQ ZfE [] E0 (Zae (tVar 1) (Zae (tVar 2) tNil))) (gSub (tVar 2) (tOp (rIxA K) (tVar 1) (tC (.int 1))) Zco) { nx:=fun _ H'=>Q .non H',rt:=Q } [some (.ref p),some v2,some (.ref z.1.2)] H else Q .non H:=by
    intro ho hin
    rw[hin]
    exact ⟨false,rfl,iteF (nix ho)⟩
   cases r with
   | put q n=>exact calc_way q n rfl ok.1 rfl rfl (by simp only[Rw.row];decide)
   | copy q q1=>exact calc_way q _ rfl ok.1 rfl rfl (by simp only[Rw.row];decide)
   | plus q q1 q2=>exact calc_way q _ rfl ok.1 rfl rfl (by simp only[Rw.row];decide)
   | less q q1 q2=>exact calc_way q _ rfl ok.1 rfl rfl (by simp only[Rw.row];decide)
   | times q q1 n=>exact calc_way q _ rfl ok.1 rfl rfl (by simp only[Rw.row];decide)
   | take q=>exact absurd rfl ht
   | tell q=>exact absurd rfl hb
   | jump t=>exact no_way rfl (by simp only[Rw.row];decide)
   | zero q t=>exact no_way rfl (by simp only[Rw.row];decide)
   | below q t=>exact no_way rfl (by simp only[Rw.row];decide)
   | call q g qs=>exact no_way rfl (by simp only[Rw.row];decide)
   | back q=>exact no_way rfl (by simp only[Rw.row];decide)
end
end My
end
section
namespace My
open PySem L2
section
variable {P:Program} {w:World} {K:W.Frag} {mg:Str->Option Value} {base:Heap}
variable {C:Addr}
inductive Pr_give (C:Addr) (x y:V) (H:Hp) (Q:VK):Prop
 | mk (p dx pp pf pn pl fz z P h ve n d p2 g qs) (_:x=.ref p) (_:HA C p dx pp pf pn pl (fz++[z]) H P h ve) (_:y=.int n) (_:0<=z.2.1) (_:P[z.2.1.toNat]?=some d) (_:0<=z.2.2.1) (_:d.rows[z.2.2.1.toNat]?=some (.call p2 g qs)) (_:In0 p2 z.2.2.2.length) (_:∀ H',HA C p dx pp pf pn pl (fz++[(z.1,(z.2.1,z.2.2.1+1,Zbz z.2.2.2 p2 n))]) H' P { h with frames:=fz.map (·.2)++[(z.2.1,z.2.2.1+1,Zbz z.2.2.2 p2 n)] } ve->OSame (ownA p pf pn pl (fz++[z])) H H'->Q .non H'):Pr_give C x y H Q
def Zi7 (C:Addr):Sp:=sp2 (Pr_give C)
theorem sc_Hand_give_back:FnScope ["self","number","frame","call"] ["self","number"] (Zan ZbP):=by walk_at"fs"
theorem ZeK (HHand:CHand K C) (T_Hand_give_back:TopM K C "give_back" "Hand.give_back" ZbP ["self","number"]) (Crow_of:Callee P w K mg base "row_of" 1 ["program","frame"] ZeV):MCal P w K mg base C "give_back" 2 ["self","number"] (Zi7 C):=by
 refine T_Hand_give_back.ok2 sc_Hand_give_back fun f cdv A outer s H v1 v2 Q E hr hh=>?_
 have nd:=sc_Hand_give_back.nd
 obtain ⟨p,dx,pp,pf,pn,pl,fz,z,Pg,h,ve,n,d,p2,g,qs,rfl,a,rfl,f0,ed,a0,er,hp2,k⟩:=hh
 refine' ZaB [some (.ref p),some (.int n),none,none] rfl ?hb ?hg
 case hb=>exact (Zaf (Zbd (i:=2) nd rfl (Or.inl rfl) (Zai (k_ix (K:=K) rfl) (Zbj (K:=K) rfl (pv 0) rfl) (Zcp ZbB Zaa) (fun _ _=>rfl))) (Zaf (Zbl (i:=3) nd rfl (Or.inl rfl) (ZaS Crow_of hr.m (by rfl) (Zbc (Zbj (K:=K) rfl (pv 0) rfl) (Zac (pv 2) Zad)))) (Zaf (Za3 (pv 1) (Zbq (Zai (k_ix (K:=K) rfl) (pv 2) Zaa (fun _ _=>rfl)) (Zai (k_ix (K:=K) rfl) (pv 3) Zaa (fun _ _=>rfl)) ZaO)) (Zal (Za3 (ZaN Zbx (Zai (k_ix (K:=K) rfl) (pv 2) Zaa (fun _ _=>rfl)) Zaa) (Zbq (pv 2) Zaa ZaO))))))
 have z1:=a.z1 (z:=z) (by simp)
 have z2:=a.z2 (z:=z) (by simp)
 walk_at"rd"
 refine ZaU a.obj HHand.cl HHand.n_frames Zbn ?_
 walk_at"rd"
 refine Zak a.fl Zdb ?_
 walk_at"rd"
 refine ZaU a.obj HHand.cl HHand.n_program ZcV ?_
 walk_at"rd"
 refine use2 ⟨_,Pg,pp,z.1.1,z.2.1,z.2.2.1,z.1.2,d,.call p2 g qs,rfl,rfl,a.pg,z1,f0,ed,a0,er,fun v rv=>?_⟩
 walk_at"rd"
 refine Zak (v:=.ref z.1.2) z1 rfl ?_
 walk_at"rd"
 refine Zaz (n:=0) rv rfl rfl ?_
 have hq:p2.toNat < z.2.2.2.length:=by have:=hp2.1;have:=hp2.2;lia
 refine Zbh (k:=p2.toNat) z2 (ZgF (by have:=hp2.1;lia) (by rw[length_map];exact hq)) ?_
 rw[Zdp]
 obtain ⟨a1,o1⟩:=a.setBox (Zbz z.2.2.2 p2 n)
 have w1:=a1.z1 (z:=(z.1,(z.2.1,z.2.2.1,Zbz z.2.2.2 p2 n))) (by simp)
 walk_at"rd"
 refine Zak (v:=.int z.2.2.1) w1 rfl ?_
 walk_at"rd"
 refine Zbh (k:=1) w1 rfl ?_
 obtain ⟨a2,o2⟩:=a1.setRow (z.2.2.1+1)
 walk_at"rd"
 refine k _ ?_ (o1.trans o2 fun x hx=>.inl ?_)
 ·have e:({ h with frames:=fz.map (·.2)++[(z.2.1,z.2.2.1+1,Zbz z.2.2.2 p2 n)] }:HS)={ ({ h with frames:=fz.map (·.2)++[(z.2.1,z.2.2.1,Zbz z.2.2.2 p2 n)] }:HS) with frames:=fz.map (·.2)++[(z.2.1,z.2.2.1+1,Zbz z.2.2.2 p2 n)] }:=rfl
  rw[e]
  exact a2
 ·rw[Zbi] at hx ⊢
  exact hx
theorem ZkM {r:Rw} {bx l n:List Int} {at':Int}:r.next (r.own3 bx l n).1 at'=r.next bx at':=by cases r <;> rfl
theorem Zmi {r:Rw} {bx l n:List Int}:(r.own3 bx l n).1.length=bx.length:=by cases r <;> simp[Rw.own3,Rw.calc,Zbz]
theorem ne_pf {p pf pn pl:Addr} {fz:List FZ} (h:(ownA p pf pn pl fz).Nodup) {z:FZ} (m:z∈fz):z.1.2≠pf/\z.1.1≠pf:=by
 unfold ownA at h
 obtain ⟨_,_,n3⟩:=nodup_append.mp h
 exact ⟨fun e=>n3 pf (by simp) z.1.2 (mem_flatMap.mpr ⟨z,m,by simp⟩) e.symm,fun e=>n3 pf (by simp) z.1.1 (mem_flatMap.mpr ⟨z,m,by simp⟩) e.symm⟩
def Zer (h:HS) (t:List Fr×List Int×List Int):HS:={ h with frames:=t.1,left:=t.2.1,news:=t.2.2 }
inductive Pr_do_row (C:Addr) (x y:V) (H:Hp) (Q:VK):Prop
 | mk (p dx pp pf pn pl fz z P h ve d r) (_:x=.ref p) (_:HA C p dx pp pf pn pl (fz++[z]) H P h ve) (_:Rep H (rowD (Rw.row r)) y) (_:PgOk P) (_:0<=z.2.1) (_:P[z.2.1.toNat]?=some d) (_:d.rows[z.2.2.1.toNat]?=some r) (_:(z.2.2.2.length:Int)=d.boxes) (_:ZiV z.2.2.2) (_:ZbO h z.2 r=none) (_:h.news.length<=200000) (_:fz.length<=20) (_:∀ fz0 w,fz=fz0++[w]->∃ d2 p2 g qs,0<=w.2.1/\P[w.2.1.toNat]?=some d2/\0<=w.2.2.1/\d2.rows[w.2.2.1.toNat]?=some (.call p2 g qs)/\In0 p2 w.2.2.2.length) (_:∀ fz' H',HA C p dx pp pf pn pl fz' H' P (Zer h (eff P (fz.map (·.2)) z.2 h.left h.news r)) ve->OSame (ownA p pf pn pl (fz++[z])) H H'->(∀ x∈ownA p pf pn pl fz',x∈ownA p pf pn pl (fz++[z])\/H x=none)->Q .non H'):Pr_do_row C x y H Q
def Zgn (C:Addr):Sp:=sp2 (Pr_do_row C)
theorem sc_Hand_do_row:FnScope ["self","row","frame","boxes"] ["self","row"] (Zan Zcl):=by walk_at"fs"
theorem Zgb (B:Blt mg) (HHand:CHand K C) (T_Hand_do_row:TopM K C "do_row" "Hand.do_row" Zcl ["self","row"]) (Cnew_frame:Callee P w K mg base "new_frame" 1 ["program","f","numbers"] (ZfF K)) (Crow_behind:Callee P w K mg base "row_behind" 2 ["row","at","boxes"] Zgq)
  (MHand_give_back:MCal P w K mg base C "give_back" 2 ["self","number"] (Zi7 C)) (MHand_do_own:MCal P w K mg base C "do_own" 2 ["self","row","boxes"] (Zgo C)):MCal P w K mg base C "do_row" 3 ["self","row"] (Zgn C):=by
 refine T_Hand_do_row.ok2 sc_Hand_do_row fun f cdv A outer s H v1 v2 Q E hr hh=>?_
 have nd:=sc_Hand_do_row.nd
 obtain ⟨p,dx,pp,pf,pn,pl,fz,z,Pg,h,ve,d,r,rfl,a,rv,PO,f0,ed,er,hbx,mu,hend,few,hfz,hw,k⟩:=hh
 have DO:=PO.2.2 d (mem_of_getElem? ed)
 have ok:r.Ok Pg z.2.2.2.length d.rows.length:=by rw[hbx];exact DO.rows r (mem_of_getElem? er)
 refine' ZaB [some (.ref p),some v2,none,none] rfl ?hb ?hg
 case hb=>exact (Zaf (Zbd (i:=2) nd rfl (Or.inl rfl) (Zai (k_ix (K:=K) rfl) (Zbj (K:=K) rfl (pv 0) rfl) (Zcp ZbB Zaa) (fun _ _=>rfl))) (Zaf (Zbd (i:=3) nd rfl (Or.inr rfl) (Zai (k_ix (K:=K) rfl) (pv 2) Zaa (fun _ _=>rfl))) (Zal (ZaZ (Zar ZaX (Zai (k_ix (K:=K) rfl) (pv 1) Zaa (fun _ _=>rfl)) Zat (Zau _)) (Zal (Zbm (k_bm (K:=K) rfl PySem.F.plainAttrs_list PySem.F.slot_list_append PySem.F.type_list_append ZbN (Zbj (K:=K) rfl (pv 0) rfl) (Za4 (ZaS Cnew_frame hr.m (by rfl) (Zbc (Zbj (K:=K) rfl (pv 0) rfl) (Zav (Zai (k_ix (K:=K) rfl) (pv 1) Zaa (fun _ _=>rfl)) (ZcH (Zb1 (LN:=["q"]) (FN:=["boxes"]) (fr:=[3]) rfl (Zd0 (by rfl)) (ZcI (K:=K) rfl (Zai (k_ix (K:=K) rfl) (pv 1) Zaa (fun _ _=>rfl))) (fun cl C fp pins s H=>(ZaA (i:=0) (show ((["q"]:List Str)++(["boxes"]:List Str)).Nodup by decide +kernel) rfl (Or.inl rfl))) (fun cl C fp pins s H=>ZbR) (fun cl C fp pins s H=>(Zai (k_ix (K:=K) rfl) (pv 1) (pv 0) (fun _ _=>rfl)))) Zad)))) Zad)))) (Zal (ZaZ (Zar ZaX (Zai (k_ix (K:=K) rfl) (pv 1) Zaa (fun _ _=>rfl)) Zat (Zau _)) (Zaf (Zbm (Zmv (K:=K) rfl PySem.F.plainAttrs_list PySem.F.slot_list_pop PySem.F.type_list_pop ZjD (Zbj (K:=K) rfl (pv 0) rfl))) (Zal (Zbm (pe_m MHand_give_back HHand.cl hr.m (pv 0) (Zav (Zai (k_ix (K:=K) rfl) (pv 3) (Zai (k_ix (K:=K) rfl) (pv 1) Zaa (fun _ _=>rfl)) (fun _ _=>rfl)) Zad))))) (Zaf (Zbm (pe_m MHand_do_own HHand.cl hr.m (pv 0) (Zac (pv 1) (Zac (pv 3) Zad)))) (Zal (Za3 (ZaS Crow_behind hr.m (by rfl) (Zac (pv 1) (Zav (Zai (k_ix (K:=K) rfl) (pv 2) Zaa (fun _ _=>rfl)) (Zac (pv 3) Zad)))) (Zbq (pv 2) Zaa ZaO))))))))))
 have z1:=a.z1 (z:=z) (by simp)
 have z2:=a.z2 (z:=z) (by simp)
 have hfr:h.frames=fz.map (·.2)++[z.2]:=by rw[<-a.fr];simp
 walk_at"rd"
 refine ZaU a.obj HHand.cl HHand.n_frames Zbn ?_
 walk_at"rd"
 refine Zak a.fl Zdb ?_
 walk_at"rd"
 refine Zak (v:=.ref z.1.2) z1 rfl ?_
 walk_at"rd"
 refine Zah rv ?_
 walk_at"rd"
 by_cases hc:r.row.1="call"
 ·refine ZaJ hc ?_
  cases r with
  | call q g qs =>
   obtain ⟨hq,⟨d2,g0,ed2,hl2⟩,hqs⟩:=ok
   have D2:=PO.2.2 d2 (mem_of_getElem? ed2)
   walk_at"rd"
   refine ZaU a.obj HHand.cl HHand.n_frames Zbn ⟨.inl ⟨rfl,_,SqL.of a.fl⟩,?_⟩
   walk_at"rd"
   refine ZaU a.obj HHand.cl HHand.n_program ZcV ?_
   walk_at"rd"
   refine Zaz (n:=1) rv rfl rfl ?_
   walk_at"rd"
   refine Zfw (n:=3) rv rfl rfl fun vq rq=>?_
   refine ZfY rq fun aq xs eq ha rx=>?_
   have hlen:=rx.length
   rw[length_map] at hlen
   have hq1000:qs.length<=1000:=by have:=D2.t;have:=D2.b;lia
   refine ZeI (xs:=xs) (Zcv (by lia)) (fun i ys σ H1=>H1=H/\(∃ x1,σ=[x1,some (.ref z.1.2)])/\ys=((qs.take i).map (ZaL z.2.2.2)).map V.int) ⟨rfl,⟨none,rfl⟩,rfl⟩ (fun i ys σ H1 _ ⟨e,_⟩=>by rw[e];exact SqT.of ha) ?_ ?_
   ·rintro i x ys σ H1 hx hle hlt ⟨rfl,⟨x1,rfl⟩,rfl⟩
    obtain ⟨dd',ed',rd'⟩:=rx.get' hx
    rw[getElem?_map] at ed'
    obtain ⟨qi,eqi,rfl⟩:=Option.map_eq_some_iff.mp ed'
    obtain rfl:=ZaK rd'
    walk_at"rd"
    refine Zak z2 (Za8 (hqs qi (mem_of_getElem? eqi))) ?_
    refine ⟨hlt,by simpa using hle,rfl,⟨_,rfl⟩,?_⟩
    rw[take_add_one,eqi]
    simp
   ·rintro ys σ H1 hyl ⟨hH,⟨x1,rfl⟩,rfl⟩ pa hpa
    have hH:=hH.symm
    subst hH
    rw[<-hlen,take_length]
    have s1:=Same.new (o:=.lst ((qs.map (ZaL z.2.2.2)).map V.int)) hpa
    have ha1:upd H pa (.lst ((qs.map (ZaL z.2.2.2)).map V.int)) pa=some (.lst ((qs.map (ZaL z.2.2.2)).map V.int)):=Zag
    generalize upd H pa (HO.lst ((qs.map (ZaL z.2.2.2)).map V.int))=H1 at s1 ha1
    have a1:=a.mono s1
    walk_at"rd"
    refine use3 ⟨_,Pg,pp,g,pa,qs.map (ZaL z.2.2.2),d2,rfl,rfl,rfl,a1.pg,g0,ed2,⟨by have:=D2.b;lia,D2.b.2⟩,ha1,by have:=D2.t;simp;lia,fun fr bx H2 hfr0 hbx0 nfb s2 h2f h2b=>?_⟩
    have a2:=a1.mono s2
    walk_at"rd"
    refine ZbM a2.fl (Nat.lt_of_le_of_lt (show ((fz++[z]).map fun z=>V.ref z.1.1).length<=1000 by simp;lia) (by decide)) ?_
    have hnf:Zb9 Pg g (qs.map (ZaL z.2.2.2))=(g,0,qs.map (ZaL z.2.2.2)++List.replicate (d2.boxes.toNat - (qs.map (ZaL z.2.2.2)).length) 0):=by
     unfold Zb9 ZbT
     rw[ed2]
     rfl
    have m1:PgAt [fr,bx] H2 Pg pp:=a1.pg.by (OSame.of s2) s2.ts fun x hx=>by
     simp only[mem_cons,not_mem_nil,or_false] at hx
     rcases hx with rfl|rfl
     ·exact .inr hfr0
     ·exact .inr hbx0
    have n1:fr∉ownA p pf pn pl (fz++[z]):=HA.fresh a1 hfr0
    have n2:bx∉ownA p pf pn pl (fz++[z]):=HA.fresh a1 hbx0
    obtain ⟨a3,o3⟩:=a2.push (f:=Zb9 Pg g (qs.map (ZaL z.2.2.2))) (by rw[hnf];exact h2f) (by rw[hnf];exact h2b) n1 n2 nfb m1
    walk_at"rd"
    refine k (fz++[z]++[((fr,bx),Zb9 Pg g (qs.map (ZaL z.2.2.2)))]) _ ?_ ((OSame.of (s1.trans s2)).trans o3 fun x hx=>.inl hx) fun x hx=>?_
    ·have e:Zer h (eff Pg (fz.map (·.2)) z.2 h.left h.news (.call q g qs))={ h with frames:=h.frames++[Zb9 Pg g (qs.map (ZaL z.2.2.2))] }:=by
      simp[Zer,eff,hfr]
     rw[e]
     exact a3
    ·rw[Zbi] at hx
     rcases mem_append.mp hx with hx|hx
     ·exact .inl hx
     ·simp only[mem_cons,not_mem_nil,or_false] at hx
      rcases hx with rfl|rfl
      ·exact .inr (s1.free hfr0)
      ·exact .inr (s1.free hbx0)
  | _=>exact absurd hc (by simp only[Rw.row];decide)
 ·refine Zao hc ?_
  walk_at"rd"
  refine Zah rv ?_
  walk_at"rd"
  by_cases hb:r.row.1="back"
  ·refine ZaJ hb ?_
   cases r with
   | back q =>
    have hne:h.frames.length≠1:=fun e=>by
     have:ZbO h z.2 (.back q)=some (.back (ZaL z.2.2.2 q)):=if_pos e
     rw[this] at hend
     cases hend
    obtain ⟨fz0,wz,hfz0⟩:∃ fz0 w,fz=fz0++[w]:=by
     rcases eq_nil_or_concat fz with e|⟨l,x,e⟩
     ·rw[e] at hfr
      rw[hfr] at hne
      simp at hne
     ·exact ⟨l,x,by simpa using e⟩
    subst hfz0
    obtain ⟨d2,p2,g,qs,w0,ew,w1,erw,hp2⟩:=hw fz0 wz rfl
    walk_at"rd"
    refine ZaU a.obj HHand.cl HHand.n_frames Zbn ⟨.inl ⟨rfl,_,SqL.of a.fl⟩,?_⟩
    refine ⟨pf,_,.ref z.1.1,rfl,rfl,a.fl,by simp,?_⟩
    have edl:((fz0++[wz]++[z]).map fun z=>V.ref z.1.1).dropLast=(fz0++[wz]).map fun z=>V.ref z.1.1:=by simp
    rw[edl]
    obtain ⟨a1,o1⟩:=a.pop
    have z2':upd H pf (.lst ((fz0++[wz]).map fun z=>V.ref z.1.1)) z.1.2=some (.lst (z.2.2.2.map V.int)):=by
     rw[Zax (ne_pf a.nd (z:=z) (by simp)).1]
     exact z2
    have rv1:=rv.mono (o1.ts a.notup)
    walk_at"rd"
    refine ZdS a1.obj ZgJ ?_
    walk_at"rd"
    refine Zaz (n:=0) rv1 rfl rfl ?_
    refine Zak z2' (Za8 ok) ?_
    walk_at"rd"
    refine use2 ⟨p,dx,pp,pf,pn,pl,fz0,wz,Pg,_,ve,ZaL z.2.2.2 q,d2,p2,g,qs,rfl,a1,rfl,w0,ew,w1,erw,hp2,fun H2 a2 o2=>?_⟩
    walk_at"rd"
    refine k (fz0++[(wz.1,(wz.2.1,wz.2.2.1+1,Zbz wz.2.2.2 p2 (ZaL z.2.2.2 q)))]) H2 ?_ (o1.trans o2 fun x hx=>.inl (by rw[Zbi];exact mem_append_left _ hx)) fun x hx=>.inl ?_
    ·have hra:ZbL Pg wz.2.1 wz.2.2.1=some (.call p2 g qs):=by unfold ZbL;rw[ew];exact erw
     have e:Zer h (eff Pg ((fz0++[wz]).map (·.2)) z.2 h.left h.news (.back q))={ ({ h with frames:=(fz0++[wz]).map (·.2) }:HS) with frames:=fz0.map (·.2)++[(wz.2.1,wz.2.2.1+1,Zbz wz.2.2.2 p2 (ZaL z.2.2.2 q))] }:=by
      simp[Zer,eff,hra]
     rw[e]
     exact a2
    ·rw[Zbi] at hx ⊢
     refine mem_append_left _ ?_
     rw[Zbi]
     exact hx
   | _=>exact absurd hb (by simp only[Rw.row];decide)
  ·refine Zao hb ?_
   walk_at"rd"
   refine ZdS a.obj ZjR ?_
   walk_at"rd"
   refine use3 ⟨p,dx,pp,pf,pn,pl,fz,z,Pg,h,ve,r,d.rows.length,rfl,a,rv,rfl,ok,mu,fun q e=>?_,few,fun H1 a1 o1=>?_⟩
   ·subst e
    intro e
    have:ZbO h z.2 (.take q)=some (.dry z.2.1 z.2.2.1):=if_pos e
    rw[this] at hend
    cases hend
   have rv1:=rv.mono (o1.ts a.notup)
   have w1:=a1.z1 (z:=(z.1,(z.2.1,z.2.2.1,(r.own3 z.2.2.2 h.left h.news).1))) (by simp)
   have w2:=a1.z2 (z:=(z.1,(z.2.1,z.2.2.1,(r.own3 z.2.2.2 h.left h.news).1))) (by simp)
   walk_at"rd"
   refine Zak (v:=.int z.2.2.1) w1 rfl ?_
   walk_at"rd"
   refine use3 ⟨Pg,d.rows.length,r,z.1.2,(r.own3 z.2.2.2 h.left h.news).1,z.2.2.1,rv1,rfl,rfl,w2,by rw[Zmi];exact ok,fun H2 s2=>?_⟩
   rw[ZkM]
   have a2:=a1.mono s2
   walk_at"rd"
   refine Zbh (k:=1) (s2 _ _ w1) rfl ?_
   obtain ⟨a3,o3⟩:=a2.setRow (r.next z.2.2.2 z.2.2.1)
   walk_at"rd"
   refine k (fz++[(z.1,(z.2.1,r.next z.2.2.2 z.2.2.1,(r.own3 z.2.2.2 h.left h.news).1))]) _ ?_ ((o1.trans (OSame.of (own:=ownA p pf pn pl (fz++[z])) s2) fun x hx=>.inl hx).trans o3 fun x hx=>.inl ?_) fun x hx=>.inl ?_
   ·have e:Zer h (eff Pg (fz.map (·.2)) z.2 h.left h.news r)={ h with frames:=fz.map (·.2)++[(z.2.1,r.next z.2.2.2 z.2.2.1,(r.own3 z.2.2.2 h.left h.news).1)],left:=(r.own3 z.2.2.2 h.left h.news).2.1,news:=(r.own3 z.2.2.2 h.left h.news).2.2 }:=by
     cases r with
     | call q g qs=>exact absurd rfl hc
     | back q=>exact absurd rfl hb
     | _=>rfl
    rw[e]
    exact a3
   ·rw[Zbi] at hx ⊢
    exact hx
   ·rw[Zbi] at hx ⊢
    exact hx
variable {C:Addr}
theorem ZmD {Pg:List Df} {h:HS} {fs:List Fr} {fr:Fr} {r:Rw} (e0:h.fin=none) (e1:h.frames=fs++[fr]) (e2:ZbL Pg fr.1 fr.2.1=some r) :
  h.go Pg=match ZbO h fr r with
   | some e=>{ h with fin:=some e }
   | none=>Zer { h with gone:=h.gone+1 } (eff Pg fs fr h.left h.news r):=by
 unfold HS.go
 rw[e0,e1]
 simp only[getLast?_append,getLast?_singleton,Option.some_or,e2,dropLast_concat]
 cases ZbO h fr r <;> rfl
theorem ZgN {H:Hp} {e:En} {v:V} (h:Rep H (En.d (some e)) v):¬ v=.non:=fun z=>by
 subst z
 cases e <;> (obtain ⟨_,_,e',_⟩:=ZaG h;cases e')
theorem ZgO {H:Hp} {v:V} (h:Rep H (En.d none) v):v=.non:=by
 simp only[En.d] at h
 rwa [Rep] at h
theorem Zlx {Pg:List Df} {g:Int} {fr:Fr} (h:FrOk Pg g fr) (hg:g<=900):ZiV fr.2.2:=fun x hx=>by
 have h1:=h.small x hx
 have h2:(100:Nat) ^ g.toNat<=100 ^ 900:=Nat.pow_le_pow_right (by decide) (by lia)
 have h3:10 ^ 60 * 100 ^ g.toNat<=10 ^ 60 * 100 ^ 900:=Nat.mul_le_mul_left _ h2
 have h4:(10 ^ 60 * 100 ^ 900:Nat) < 2 ^ 8000:=by decide +kernel
 lia
inductive Pr_go (C:Addr) (x:V) (H:Hp) (Q:VK):Prop
 | mk (p dx pp pf pn pl fz P h ve) (_:x=.ref p) (_:HA C p dx pp pf pn pl fz H P h ve) (_:PgOk P) (_:HsOk P h) (_:h.gone<=900) (_:∀ fz' ve' H',HA C p dx pp pf pn pl fz' H' P (h.go P) ve'->OSame (ownA p pf pn pl fz) H H'->(∀ x∈ownA p pf pn pl fz',x∈ownA p pf pn pl fz\/H x=none)->Q .non H'):Pr_go C x H Q
def sp_go (C:Addr):Sp:=sp1 (Pr_go C)
theorem sc_Hand_go:FnScope ["self","row"] ["self"] (Zan Zef):=by walk_at"fs"
theorem Zkg (HHand:CHand K C) (T_Hand_go:TopM K C "go" "Hand.go" Zef ["self"]) (Crow_of:Callee P w K mg base "row_of" 1 ["program","frame"] ZeV) (MHand_end_at:MCal P w K mg base C "end_at" 1 ["self","row"] (Zgm C)) (MHand_do_row:MCal P w K mg base C "do_row" 3 ["self","row"] (Zgn C)):MCal P w K mg base C "go" 4 ["self"] (sp_go C):=by
 refine T_Hand_go.ok1 sc_Hand_go fun f cdv A outer s H v1 Q E hr hh=>?_
 have nd:=sc_Hand_go.nd
 obtain ⟨p,dx,pp,pf,pn,pl,fz,Pg,h,ve,rfl,a,PO,HO,hg,k⟩:=hh
 refine' ZaB [some (.ref p),none] rfl ?hb ?hg
 case hb=>exact (Zal (ZaZ (Zar Zeu (Zbj (K:=K) rfl (pv 0) rfl) Zcr (Zau _)) (Zaf (Zbl (i:=1) nd rfl (Or.inl rfl) (ZaS Crow_of hr.m (by rfl) (Zbc (Zbj (K:=K) rfl (pv 0) rfl) (Zav (Zai (k_ix (K:=K) rfl) (Zbj (K:=K) rfl (pv 0) rfl) (Zcp ZbB Zaa) (fun _ _=>rfl)) Zad)))) (Zaf (ZcU (K:=K) rfl (pv 0) (pe_m MHand_end_at HHand.cl hr.m (pv 0) (Zac (pv 1) Zad)) rfl) (Zal (ZaZ (Zar Zeu (Zbj (K:=K) rfl (pv 0) rfl) Zcr (Zau _)) (Zaf (ZcU (K:=K) rfl (pv 0) (ZaN Zbx (Zbj (K:=K) rfl (pv 0) rfl) Zaa) rfl) (Zal (Zbm (pe_m MHand_do_row HHand.cl hr.m (pv 0) (Zac (pv 1) Zad))))) ZaE)))) ZaE))
 walk_at"rd"
 refine ZaU a.obj HHand.cl HHand.n_end Zij ?_
 walk_at"rd"
 cases hf:h.fin with
 | some e =>
  have en:=a.en
  rw[hf] at en
  refine Zao (ZgN en) ?_
  walk_at"rd"
  have e2:h.go Pg=h:=by unfold HS.go;rw[hf]
  exact k fz ve H (by rw[e2];exact a) (OSame.refl _ _) fun x hx=>.inl hx
 | none =>
  have en:=a.en
  rw[hf] at en
  obtain rfl:=ZgO en
  refine ZaJ rfl ?_
  obtain ⟨fz0,z,hz⟩:∃ fz0 z,fz=fz0++[z]:=by
   rcases eq_nil_or_concat fz with e|⟨l,x,e⟩
   ·have:=a.fr
    rw[e] at this
    exact absurd this.symm HO.ne
   ·exact ⟨l,x,by simpa using e⟩
  subst hz
  have hfr:h.frames=fz0.map (·.2)++[z.2]:=by rw[<-a.fr];simp
  have z1:=a.z1 (z:=z) (by simp)
  have FO:=HO.fr z.2 (by rw[hfr];simp)
  obtain ⟨d,f0,ed,hat,hbx⟩:=FO.ex
  have hlt:z.2.2.1.toNat < d.rows.length:=by have:=hat.1;have:=hat.2;lia
  have er:d.rows[z.2.2.1.toNat]?=some d.rows[z.2.2.1.toNat]:=getElem?_eq_getElem hlt
  generalize hr0:d.rows[z.2.2.1.toNat]=r at er
  have DO:=PO.2.2 d (mem_of_getElem? ed)
  have ok:r.Ok Pg z.2.2.2.length d.rows.length:=by rw[hbx];exact DO.rows r (mem_of_getElem? er)
  have hra:ZbL Pg z.2.1 z.2.2.1=some r:=by unfold ZbL;rw[ed];exact er
  have hgo:=ZmD hf hfr hra
  walk_at"rd"
  refine ZaU a.obj HHand.cl HHand.n_program ZcV ?_
  walk_at"rd"
  refine ZaU a.obj HHand.cl HHand.n_frames Zbn ?_
  walk_at"rd"
  refine Zak a.fl Zdb ?_
  walk_at"rd"
  refine use2 ⟨_,Pg,pp,z.1.1,z.2.1,z.2.2.1,z.1.2,d,r,rfl,rfl,a.pg,z1,f0,ed,hat.1,er,fun v rv=>?_⟩
  walk_at"rd"
  refine ZdS a.obj ZjP ?_
  walk_at"rd"
  refine use2 ⟨p,dx,pp,pf,pn,pl,fz0,z,Pg,h,.non,r,d.rows.length,rfl,a,rv,ok,fun v' H1 s1 re=>?_⟩
  have a1:=a.mono s1
  walk_at"rd"
  refine Zb3 a1.obj HHand.cl HHand.n_end (by show 6 < 1000;decide) ?_
  rw[hp_end]
  obtain ⟨a2,o2⟩:=a1.setEnd re
  have o12:OSame (ownA p pf pn pl (fz0++[z])) H _:=(OSame.of (own:=ownA p pf pn pl (fz0++[z])) s1).trans o2 fun x hx=>.inl hx
  have rv2:=rv.mono (o12.ts a.notup)
  walk_at"rd"
  refine ZaU a2.obj HHand.cl HHand.n_end Zij ?_
  walk_at"rd"
  cases he:ZbO h z.2 r with
  | some e =>
   rw[he] at re a2 hgo
   refine Zao (ZgN re) ?_
   walk_at"rd"
   exact k _ v' _ (by rw[hgo];exact a2) o12 fun x hx=>.inl hx
  | none =>
   rw[he] at re a2 hgo
   obtain rfl:=ZgO re
   refine ZaJ rfl ?_
   walk_at"rd"
   refine ZaU a2.obj HHand.cl HHand.n_gone ZdV ?_
   walk_at"rd"
   refine Zb3 a2.obj HHand.cl HHand.n_gone (by show 6 < 1000;decide) ?_
   rw[ZjN]
   obtain ⟨a3,o3⟩:=a2.setGone (h.gone+1)
   have o13:=o12.trans o3 fun x hx=>.inl hx
   have rv3:=rv.mono (o13.ts a.notup)
   walk_at"rd"
   refine ZdS a3.obj ZjQ ?_
   walk_at"rd"
   have hnews:h.news.length<=200000:=by have:=HO.sz;lia
   have hlen20:fz0.length<=20:=by have:=HO.few;rw[hfr] at this;simp at this;lia
   refine use2 ⟨p,dx,pp,pf,pn,pl,fz0,z,Pg,_,.non,d,r,rfl,a3,rv3,PO,f0,ed,er,hbx,Zlx FO hg,?_,hnews,hlen20,fun fz1 wz e1=>?_,fun fz' H4 a4 o4 m4=>?_⟩
   ·have:ZbO { ({ h with fin:=none }:HS) with gone:=h.gone+1 } z.2 r=ZbO h z.2 r:=by cases r <;> rfl
    exact this.trans he
   ·subst e1
    have hw:=HO.wait fz1.length wz.2 (by rw[hfr];simp) (by rw[hfr];simp)
    obtain ⟨p2,g,qs,hw⟩:=hw
    have FW:=HO.fr wz.2 (by rw[hfr];simp)
    obtain ⟨d2,w0,ew,wat,wbx⟩:=FW.ex
    have hwlt:wz.2.2.1.toNat < d2.rows.length:=by have:=wat.1;have:=wat.2;lia
    have erw:d2.rows[wz.2.2.1.toNat]?=some (.call p2 g qs):=by
     unfold ZbL at hw
     rw[ew] at hw
     exact hw
    have D2:=PO.2.2 d2 (mem_of_getElem? ew)
    have okw:=D2.rows _ (mem_of_getElem? erw)
    exact ⟨d2,p2,g,qs,w0,ew,wat.1,erw,by rw[wbx];exact okw.1⟩
   ·walk_at"rd"
    refine k fz' .non H4 ?_ (o13.trans o4 fun x hx=>.inl hx) fun x hx=>?_
    ·rw[hgo]
     have:({ h with fin:=none }:HS)=h:=by cases h;simp at hf;subst hf;rfl
     rw[this] at a4
     exact a4
    ·rcases m4 x hx with q|q
     ·exact .inl q
     ·by_cases hx2:x∈ownA p pf pn pl (fz0++[z])
      ·exact .inl hx2
      ·right
       cases hHx:H x with
       | none=>rfl
       | some ox =>
        rw[o13 x ox hx2 hHx] at q
        cases q
variable {C:Addr}
inductive FDf (H0 H:Hp) (d:Df) (v:V):Prop
 | mk (t q ys) (_:v=.ref t) (_:H t=some (.tup [.int d.takes,.int d.boxes,.ref q])) (_:H q=some (.lst ys)) (_:H0 q=none) (_:Reps H (ZdN d.rows) ys):FDf H0 H d v
theorem FDf.mono {H0 H H':Hp} {d:Df} {v:V} (h:FDf H0 H d v) (s:Same H H'):FDf H0 H' d v:=by
 obtain ⟨t,q,ys,e,h1,h2,h3,r⟩:=h
 exact ⟨t,q,ys,e,s _ _ h1,s _ _ h2,h3,r.mono s.ts⟩
inductive FPg (H0 H:Hp) (P:List Df) (pp:Addr):Prop
 | mk (vs) (_:H pp=some (.lst vs)) (_:H0 pp=none) (_:vs.length=P.length) (_:∀ (i:Nat) (d:Df) (v:V),P[i]?=some d->vs[i]?=some v->FDf H0 H d v):FPg H0 H P pp
theorem FPg.by {H0 H H':Hp} {P:List Df} {pp p:Addr} (h:FPg H0 H P pp) (hp:H0 p≠none) (np:∀ xs,H p≠some (.tup xs)) (s:OSame [p] H H'):FPg H0 H' P pp:=by
 obtain ⟨vs,h1,h2,h3,h4⟩:=h
 have ne:∀ q,H0 q=none->q∉[p]:=fun q hq m=>by
  simp only[mem_singleton] at m
  subst m
  exact hp hq
 have ts:TSame H H':=s.ts fun a ha=>by
  simp only[mem_singleton] at ha
  subst ha
  exact np
 refine ⟨vs,s _ _ (ne _ h2) h1,h2,h3,fun i d v e1 e2=>?_⟩
 obtain ⟨t,q,ys,e,k1,k2,k3,r⟩:=h4 i d v e1 e2
 exact ⟨t,q,ys,e,ts _ _ k1,s _ _ (ne _ k3) k2,k3,r.mono ts⟩
theorem FPg.at {H0 H:Hp} {P:List Df} {pp:Addr} (h:FPg H0 H P pp) {own:List Addr} (n:∀ x∈own,H0 x≠none):PgAt own H P pp:=by
 obtain ⟨vs,h1,h2,h3,h4⟩:=h
 refine ⟨vs,h1,fun m=>n _ m h2,h3,fun i d v e1 e2=>?_⟩
 obtain ⟨t,q,ys,e,k1,k2,k3,r⟩:=h4 i d v e1 e2
 exact ⟨t,q,ys,e,k1,k2,fun m=>n _ m k3,r⟩
theorem FPg.at2 {H0 H:Hp} {P:List Df} {pp:Addr} (h:FPg H0 H P pp) {own:List Addr} (n:∀ x∈own,H0 x≠none\/H x=none):PgAt own H P pp:=by
 obtain ⟨vs,h1,h2,h3,h4⟩:=h
 have ne:∀ q o,H0 q=none->H q=some o->q∉own:=fun q o e1 e2 m=>by
  rcases n q m with z|z
  ·exact z e1
  ·rw[z] at e2;cases e2
 refine ⟨vs,h1,ne _ _ h2 h1,h3,fun i d v e1 e2=>?_⟩
 obtain ⟨t,q,ys,e,k1,k2,k3,r⟩:=h4 i d v e1 e2
 exact ⟨t,q,ys,e,k1,k2,ne _ _ k3 k2,r⟩
structure Ld (C p dx:Addr) (H Hk:Hp) (l:List (Addr×HO)) (fs:List (Str×V)):Prop where
 os:OSame [p] H Hk
 all:AllAt Hk l
 nd:(p::l.map (·.1)).Nodup
 fresh:∀ x∈l.map (·.1),H x=none
 me:Hk p=some (.ins C dx fs)
section
variable {C p dx a:Addr} {H Hk Hk':Hp} {l:List (Addr×HO)} {fs fs':List (Str×V)} {o:HO}
theorem Ld.free (L:Ld C p dx H Hk l fs) (h:Hk a=none):H a=none:=by
 cases e:H a with
 | none=>rfl
 | some u =>
  by_cases ha:a=p
  ·subst ha;rw[L.me] at h;cases h
  ·rw[L.os a u (by simpa using ha) e] at h;cases h
theorem Ld.same (L:Ld C p dx H Hk l fs) (s:Same Hk Hk'):Ld C p dx H Hk' l fs :=
 ⟨fun a u n e=>s _ _ (L.os a u n e),L.all.mono s,L.nd,L.fresh,s _ _ L.me⟩
theorem Ld.add (L:Ld C p dx H Hk l fs) (s:Same Hk Hk') (h:Hk a=none) (h':Hk' a=some o):Ld C p dx H Hk' ((a,o)::l) fs:=by
 have L':=L.same s
 refine ⟨L'.os,fun e he=>?_,?_,fun x hx=>?_,L'.me⟩
 ·rcases mem_cons.mp he with rfl|he
  ·exact h'
  ·exact L'.all e he
 ·have n1:a≠p:=fun z=>by rw[z,L.me] at h;cases h
  have n2:a∉l.map (·.1):=fun m=>by
   obtain ⟨e,he,rfl⟩:=mem_map.mp m
   rw[L.all e he] at h;cases h
  have n3:=nodup_cons.mp L.nd
  refine nodup_cons.mpr ⟨fun m=>?_,nodup_cons.mpr ⟨n2,n3.2⟩⟩
  rcases mem_cons.mp m with z|z
  ·exact n1 z.symm
  ·exact n3.1 z
 ·rcases mem_cons.mp hx with rfl|hx
  ·exact L.free h
  ·exact L.fresh x hx
theorem Ld.new (L:Ld C p dx H Hk l fs) (h:Hk a=none):Ld C p dx H (upd Hk a o) ((a,o)::l) fs:=L.add (Same.new h) h Zag
theorem Ld.add2 {b:Addr} {ob:HO} (L:Ld C p dx H Hk l fs) (s:Same Hk Hk') (ha:Hk a=none) (hb:Hk b=none) (n:a≠b) (ha':Hk' a=some o) (hb':Hk' b=some ob):Ld C p dx H Hk' ((a,o)::(b,ob)::l) fs:=by
 refine (L.new (o:=ob) hb).add (a:=a) (fun x u e=>?_) (by rw[Zax n];exact ha) ha'
 by_cases hx:x=b
 ·subst hx;rw[Zag] at e;cases e;exact hb'
 ·rw[Zax hx] at e;exact s _ _ e
theorem Ld.put (L:Ld C p dx H Hk l fs):Ld C p dx H (upd Hk p (.ins C dx fs')) l fs':=by
 refine ⟨fun a u n e=>?_,fun e he=>?_,L.nd,L.fresh,Zag⟩
 ·rw[Zax (fun z:a=p=>n (by simp[z]))]
  exact L.os a u n e
 ·have:e.1≠p:=fun z=>(nodup_cons.mp L.nd).1 (z▸mem_map_of_mem he)
  rw[Zax this]
  exact L.all e he
theorem Ld.ts (L:Ld C p dx H Hk l fs) (h:H p=some (.ins C dx fs')):TSame H Hk:=L.os.ts fun a ha xs e=>by
 simp only[mem_singleton] at ha
 subst ha
 rw[h] at e;cases e
end
theorem plen {k : Str} {v : V} : ∀ {l : List (Str × V)} {n : Nat}, l.length <= n -> (putF k v l).length <= n + 1
  | [], n, _ => by rw[Zei]; simp
  | (k', x) :: l, n, h => by
    by_cases e:k'=k
    · subst e; rw[Zhx]; simp at h ⊢; lia
    · rw[ZbI e]
      have:=plen (k:=k) (v:=v) (l:=l) (n:=n - 1) (by simp at h;lia)
      simp at h ⊢; lia
def ZeJ (P:List Df) (ns:List Int):HS:=⟨[Zb9 P 0 []],ns,[],0,none⟩
inductive Pr_init (C:Addr) (x y z:V) (H:Hp) (Q:VK):Prop
 | mk (p dx P pp q ns) (_:x=.ref p) (_:y=.ref pp) (_:z=.ref q) (_:H p=some (.ins C dx [])) (_:PgAt [] H P pp) (_:PgOk P) (_:H q=some (.lst ((ns:List Int).map V.int))) (_:ns.length<=100000) (_:∀ pp' pf pn pl fz H',HA C p dx pp' pf pn pl fz H' P (ZeJ P ns) .non->OSame [p] H H'->(∀ x∈ownA p pf pn pl fz,x=p\/H x=none)->(∀ own,(∀ x∈own,x∈ownA p pf pn pl fz\/H x≠none)->PgAt own H' P pp')->Q .non H'):Pr_init C x y z H Q
def Zi6 (C:Addr):Sp:=sp3 (Pr_init C)
theorem sc_Hand___init__:FnScope ["self","program","inputs"] ["self","program","inputs"] (Zan ZbZ):=by walk_at"fs"
theorem Zfe (B:Blt mg) (HHand:CHand K C) (T_Hand___init__:TopI K mg C "Hand" "Hand.__init__" ZbZ ["self","program","inputs"]) (Cnew_frame:Callee P w K mg base "new_frame" 1 ["program","f","numbers"] (ZfF K)):CCal P w K mg base C "Hand" 2 ["self","program","inputs"] (Zi6 C):=by
 refine T_Hand___init__.ok3 sc_Hand___init__ fun f cdv A outer s H v1 v2 v3 Q E hr hh=>?_
 have nd:=sc_Hand___init__.nd
 obtain ⟨p,dx,Pg,pp,q,ns,rfl,rfl,rfl,hp,pg,PO,hq,hns,k⟩:=hh
 refine' ZaB [some (.ref p),some (.ref pp),some (.ref q)] rfl ?hb ?hg
 case hb=>exact (Zaf (ZcU (K:=K) rfl (pv 0) (Zb1 (LN:=["one"]) (FN:=[]) (fr:=[]) rfl (Zd0 (by rfl)) (Zdq (K:=K) rfl (pv 1)) (fun cl C fp pins s H=>(ZaA (i:=0) (show ((["one"]:List Str)++([]:List Str)).Nodup by decide +kernel) rfl (Or.inl rfl))) (fun cl C fp pins s H=>ZbR) (fun cl C fp pins s H=>(Zap (Zav (Zai (k_ix (K:=K) rfl) (pv 0) Zaa (fun _ _=>rfl)) (Zav (Zai (k_ix (K:=K) rfl) (pv 0) Zaa (fun _ _=>rfl)) (Za4 (Zbf (ZdT (K:=K) rfl) (by rfl) B.b_list ZdZ (Zav (Zai (k_ix (K:=K) rfl) (pv 0) Zaa (fun _ _=>rfl)) Zad)) Zad)))))) rfl) (Zaf (ZcU (K:=K) rfl (pv 0) (ZaH (Za4 (ZaS Cnew_frame hr.m (by rfl) (Zac (pv 1) (Zab Zaa (Zbs (ZaH Zad) Zad)))) Zad)) rfl) (Zaf (ZcU (K:=K) rfl (pv 0) (ZaH Zad) rfl) (Zaf (ZcU (K:=K) rfl (pv 0) Zaa rfl) (Zaf (ZcU (K:=K) rfl (pv 0) (Zbf (ZdT (K:=K) rfl) (by rfl) B.b_list ZdZ (Zac (pv 2) Zad)) rfl) (Zal (ZcU (K:=K) rfl (pv 0) Zcr rfl)))))))
 obtain ⟨vs,hv,_,hl,hd⟩:=pg
 walk_at"rd"
 have hvl:vs.length<=1000:=by rw[hl];exact PO.2.1
 refine ZgI (SqL.of hv) ?_
 refine ZhL (xs:=vs) (Zcv (by lia)) (fun i ys σ Hy=>An4 (∃ x1,σ=[x1]) (Same H Hy) (ys.length=i) (∀ (j:Nat) (d:Df) (v:V),Pg[j]?=some d->ys[j]?=some v->FDf H Hy d v)) ⟨⟨none,rfl⟩,Same.refl _,rfl,fun _ _ _ _ e=>by simp at e⟩ (fun i ys σ Hy _ z_=>by obtain ⟨_,sy,_⟩:=z_;exact SqL.of (sy _ _ hv)) ?_ ?_
 ·rintro i x ys σ Hy hx hle hlt ⟨⟨x1,rfl⟩,sy,hyl,hall⟩
  have hi:i < vs.length:=(List.getElem?_eq_some_iff.mp hx).1
  have ed:Pg[i]?=some Pg[i]:=getElem?_eq_getElem (by lia)
  obtain ⟨t,q2,zs,rfl,h1,h2,_,rr⟩:=hd _ _ _ ed hx
  generalize Pg[i]=d at ed h1 rr
  walk_at"rd"
  refine Zaq (v:=.int d.takes) (sy _ _ h1) rfl ?_
  walk_at"rd"
  refine Zaq (v:=.int d.boxes) (sy _ _ h1) rfl ?_
  walk_at"rd"
  refine Zaq (v:=.ref q2) (sy _ _ h1) rfl ?_
  walk_at"rd"
  refine Zc7 (.inl (SqL.of (sy _ _ h2))) fun l hl2=>?_
  have s1:=Same.new (o:=.lst zs) hl2
  walk_at"mk";intro p3 hp3
  have s2:=Same.new (o:=.tup [.int d.takes,.int d.boxes,.ref l]) hp3
  have s12:=s1.trans s2
  refine ⟨hlt,by simp;lia,⟨_,rfl⟩,sy.trans s12,by simp[hyl],fun j d' v e1 e2=>?_⟩
  rcases Nat.lt_trichotomy j i with hj|hj|hj
  ·rw[getElem?_append_left (by lia)] at e2
   exact (hall j d' v e1 e2).mono s12
  ·subst hj
   rw[ed] at e1
   cases e1
   rw[getElem?_append_right (by lia),hyl,Nat.sub_self] at e2
   cases e2
   exact ⟨p3,l,zs,rfl,Zag,s2 _ _ Zag,sy.free hl2,rr.mono (sy.trans s12).ts⟩
  ·rw[getElem?_append_right (by lia)] at e2
   have:j - ys.length≠0:=by lia
   obtain ⟨m,hm⟩:=Nat.exists_eq_succ_of_ne_zero this
   rw[hm] at e2
   simp at e2
 ·rintro ys σ Hy _ ⟨⟨x1,rfl⟩,sy,hyl,hall⟩ pa hpa
  have s1:=sy.trans (Same.new (o:=.lst ys) hpa)
  have fp:FPg H (upd Hy pa (.lst ys)) Pg pa:=⟨ys,Zag,sy.free hpa,by lia,fun i d v e1 e2=>(hall i d v e1 e2).mono (Same.new hpa)⟩
  generalize upd Hy pa (.lst ys)=H1 at s1 fp
  have hp0:H p≠none:=by rw[hp];simp
  have hp1:=s1 _ _ hp
  have pg1:PgAt [p] H1 Pg pp:=by
   refine ⟨vs,s1 _ _ hv,fun m=>?_,hl,fun i d v e1 e2=>?_⟩
   ·simp only[mem_singleton] at m
    subst m;rw[hp] at hv;cases hv
   ·obtain ⟨t,q2,zs,e,h1,h2,_,rr⟩:=hd i d v e1 e2
    refine ⟨t,q2,zs,e,s1 _ _ h1,s1 _ _ h2,fun m=>?_,rr.mono s1.ts⟩
    simp only[mem_singleton] at m
    subst m;rw[hp] at h2;cases h2
  have L1:Ld C p dx H1 H1 [] []:=⟨OSame.refl _ _,fun _ h=>(by cases h),by simp,fun _ h=>(by cases h),hp1⟩
  walk_at"rd"
  refine Zb3 hp1 HHand.cl HHand.n_program (by show 0 < 1000;decide) ?_
  have L2:=L1.put (fs':=putF "program" (V.ref pa) [])
  generalize upd H1 p (HO.ins C dx (putF "program" (V.ref pa) []))=H2 at L2
  walk_at"rd"
  walk_at"mk";intro p1 hp1'
  have L3:=L2.new (o:=.lst []) hp1'
  have e3:upd H2 p1 (.lst []) p1=some (.lst (([]:List Int).map V.int)):=Zag
  generalize upd H2 p1 (HO.lst [])=H3 at L3 e3
  walk_at"rd"
  obtain ⟨d0,ed0⟩:∃ d0,Pg[(0:Int).toNat]?=some d0:=⟨Pg[0]'(by have:=PO.1;exact length_pos_iff.mpr this),getElem?_eq_getElem _⟩
  have D0:=PO.2.2 d0 (mem_of_getElem? ed0)
  refine use3 ⟨[p],Pg,pp,0,p1,[],d0,rfl,rfl,rfl,pg1.by L3.os (L3.ts hp1) (fun x hx=>.inl hx),Int.le_refl _,ed0,⟨by have:=D0.b;lia,D0.b.2⟩,e3,by have:=D0.b;simp;lia,fun fr bx H4 hfr0 hbx0 nfb s4 h4f h4b=>?_⟩
  have L4:=L3.add2 s4 hfr0 hbx0 nfb h4f h4b
  walk_at"mk";intro pf hpf
  have L5:=L4.new (o:=.lst [.ref fr]) hpf
  generalize upd H4 pf (HO.lst [V.ref fr])=H5 at L5
  walk_at"rd"
  refine Zb3 L5.me HHand.cl HHand.n_frames (Nat.lt_of_le_of_lt (plen (Nat.le_refl 0)) (by decide)) ?_
  have L6:=L5.put (fs':=putF "frames" (V.ref pf) (putF "program" (V.ref pa) []))
  generalize upd H5 p (HO.ins C dx (putF "frames" (V.ref pf) (putF "program" (V.ref pa) [])))=H6 at L6
  walk_at"rd"
  walk_at"mk";intro pn hpn
  have L7:=L6.new (o:=.lst []) hpn
  generalize upd H6 pn (HO.lst [])=H7 at L7
  walk_at"rd"
  refine Zb3 L7.me HHand.cl HHand.n_news (Nat.lt_of_le_of_lt (plen (plen (Nat.le_refl 0))) (by decide)) ?_
  have L8:=L7.put (fs':=putF "news" (V.ref pn) (putF "frames" (V.ref pf) (putF "program" (V.ref pa) [])))
  generalize upd H7 p (HO.ins C dx (putF "news" (V.ref pn) (putF "frames" (V.ref pf) (putF "program" (V.ref pa) []))))=H8 at L8
  walk_at"rd"
  refine Zb3 L8.me HHand.cl HHand.n_gone (Nat.lt_of_le_of_lt (plen (plen (plen (Nat.le_refl 0)))) (by decide)) ?_
  have L9:=L8.put (fs':=putF "gone" (V.int 0) (putF "news" (V.ref pn) (putF "frames" (V.ref pf) (putF "program" (V.ref pa) []))))
  generalize upd H8 p (HO.ins C dx (putF "gone" (V.int 0) (putF "news" (V.ref pn) (putF "frames" (V.ref pf) (putF "program" (V.ref pa) [])))))=H9 at L9
  walk_at"rd"
  have hq9:H9 q=some (.lst (ns.map V.int)):=L9.os _ _ (fun m=>by
   simp only[mem_singleton] at m
   subst m;rw[hp] at hq;cases hq) (s1 _ _ hq)
  refine Zc7 (.inl (SqL.of hq9)) fun pl hpl=>?_
  have L10:=L9.new (o:=.lst (ns.map V.int)) hpl
  generalize upd H9 pl (HO.lst (ns.map V.int))=H10 at L10
  walk_at"rd"
  refine Zb3 L10.me HHand.cl HHand.n_left (Nat.lt_of_le_of_lt (plen (plen (plen (plen (Nat.le_refl 0))))) (by decide)) ?_
  have L11:=L10.put (fs':=putF "left" (V.ref pl) (putF "gone" (V.int 0) (putF "news" (V.ref pn) (putF "frames" (V.ref pf) (putF "program" (V.ref pa) [])))))
  generalize upd H10 p (HO.ins C dx (putF "left" (V.ref pl) (putF "gone" (V.int 0) (putF "news" (V.ref pn) (putF "frames" (V.ref pf) (putF "program" (V.ref pa) []))))))=H11 at L11
  walk_at"rd"
  refine Zb3 L11.me HHand.cl HHand.n_end (Nat.lt_of_le_of_lt (plen (plen (plen (plen (plen (Nat.le_refl 0)))))) (by decide)) ?_
  have L12:=L11.put (fs':=putF "end" V.non (putF "left" (V.ref pl) (putF "gone" (V.int 0) (putF "news" (V.ref pn) (putF "frames" (V.ref pf) (putF "program" (V.ref pa) []))))))
  generalize upd H11 p (HO.ins C dx (putF "end" V.non (putF "left" (V.ref pl) (putF "gone" (V.int 0) (putF "news" (V.ref pn) (putF "frames" (V.ref pf) (putF "program" (V.ref pa) [])))))))=H12 at L12
  rw[hi_all] at L12
  have hnf:Zb9 Pg 0 []=(0,0,List.replicate d0.boxes.toNat 0):=by
   unfold Zb9 ZbT
   rw[ed0]
   rfl
  have hnd:=L12.nd
  have hown:ownA p pf pn pl [((fr,bx),Zb9 Pg 0 [])]=[p,pf,pn,pl,fr,bx]:=rfl
  have hfr:=L12.fresh
  simp only[map_cons,map_nil,mem_cons,not_mem_nil,or_false] at hfr
  have hold:∀ x∈[p,pf,pn,pl,fr,bx],x=p\/H1 x=none:=fun x hx=>by
   simp only[mem_cons,not_mem_nil,or_false] at hx
   rcases hx with z|z|z|z|z|z
   ·exact .inl z
   all_goals exact .inr (hfr x (by simp[z]))
  have hpg:∀ own,(∀ x∈own,x∈[p,pf,pn,pl,fr,bx]\/H x≠none)->PgAt own H12 Pg pa:=fun own hn=>by
   have h1:PgAt (p::own) H1 Pg pa:=fp.at2 fun x hx=>by
    rcases mem_cons.mp hx with rfl|hx
    ·exact .inl hp0
    ·rcases hn x hx with z|z
     ·rcases hold x z with rfl|z
      ·exact .inl hp0
      ·exact .inr z
     ·exact .inl z
   exact (h1.by (fun a u n e=>L12.os a u (fun m=>n (by simp at m;simp[m])) e) (L12.ts hp1) (fun x hx=>.inl hx)).by (own':=own) (OSame.refl _ _) (fun _ _ e=>e) fun x hx=>.inl (mem_cons_of_mem _ hx)
  refine k pa pf pn pl [((fr,bx),Zb9 Pg 0 [])] H12 ⟨fun e he=>?_,?_,?_,?_,rfl⟩ (fun a u n e=>L12.os a u n (s1 _ _ e)) (fun x hx=>?_) (by rw[hown];exact hpg)
  ·have ha:=L12.all
   rw[hnf] at he
   simp only[ZdW,ZeJ,ZbS,map_cons,map_nil,flatMap_cons,flatMap_nil,append_nil,cons_append,nil_append,mem_cons,not_mem_nil,or_false] at he
   rcases he with rfl|rfl|rfl|rfl|rfl|rfl
   ·exact L12.me
   ·exact ha (pf,_) (by simp)
   ·exact ha (pn,_) (by simp)
   ·exact ha (pl,_) (by simp)
   ·exact ha (fr,_) (by simp)
   ·exact ha (bx,_) (by simp)
  ·rw[hown]
   simp only[map_cons,map_nil,nodup_cons,mem_cons,not_mem_nil,or_false,not_or,not_false_iff,nodup_nil,and_true] at hnd ⊢
   obtain ⟨⟨a1,a2,a3,a4,a5,a6⟩,⟨b1,b2,b3,b4,b5⟩,⟨c1,c2,c3,c4⟩,⟨d1,d2,d3⟩,⟨e1,e2⟩,f1⟩:=hnd
   exact ⟨⟨a3,a2,a1,a4,a5⟩,⟨fun z=>c1 z.symm,fun z=>b2 z.symm,d1,d2⟩,⟨fun z=>b1 z.symm,c2,c3⟩,⟨b3,b4⟩,e1⟩
  ·show Rep H12 (En.d none) V.non
   simp only[En.d]
   rw[Rep]
  ·exact hpg _ fun x hx=>.inl hx
  ·rcases hold x hx with z|z
   ·exact .inl z
   ·refine .inr ?_
    cases e:H x with
    | none=>rfl
    | some u=>rw[s1 _ _ e] at z;cases z
end
end My
end
section
namespace My
open PySem L2
section
variable {P:Program} {w:World} {K:W.Frag} {mg:Str->Option Value} {base:Heap}
variable {C CC:Addr}
def Zbw (a b:V):List (Str×V):=[("when",a),("asked",b)]
theorem Zj1 {a b:V}:(Zbw a b).lookup ("when":Str)=some a:=by unfold Zbw;rw[ZgC]
theorem Zf4 {a b:V}:(Zbw a b).lookup ("asked":Str)=some b:=by unfold Zbw;rw[Za9 (by decide +kernel:¬ ("asked":Str)="when"),ZgC]
theorem Zk8 {a b v:V}:putF "asked" v (Zbw a b)=Zbw a v:=by unfold Zbw;rw[ZbI (by decide +kernel:¬ ("when":Str)="asked"),Zhx]
theorem ZlJ {a b:V}:(Zbw a b).lookup ("ask":Str)=none:=by unfold Zbw;rw[Za9 (by decide +kernel:¬ ("ask":Str)="when"),Za9 (by decide +kernel:¬ ("ask":Str)="asked")];rfl
theorem ci_all {a b:V}:putF "asked" b (putF "when" a [])=Zbw a b:=by
 unfold Zbw
 rw[Zei,ZbI (by decide +kernel:¬ ("when":Str)="asked"),Zei]
def ChAt (CC p dx q:Addr) (H:Hp) (bs:List Bool) (n:Nat):Prop:=H p=some (.ins CC dx (Zbw (.ref q) (.int n)))/\H q=some (.lst (bs.map V.bl))
inductive Pr_chinit (CC:Addr) (x y:V) (H:Hp) (Q:VK):Prop
 | mk (p dx q) (_:x=.ref p) (_:y=.ref q) (_:H p=some (.ins CC dx [])) (_:Q .non (upd H p (.ins CC dx (Zbw (.ref q) (.int 0))))):Pr_chinit CC x y H Q
def Zgp (CC:Addr):Sp:=sp2 (Pr_chinit CC)
theorem sc_Chances___init__:FnScope ["self","when"] ["self","when"] (Zan ZbC):=by walk_at"fs"
theorem Zep (HChances:CChances K CC) (T_Chances___init__:TopI K mg CC "Chances" "Chances.__init__" ZbC ["self","when"]):CCal P w K mg base CC "Chances" 1 ["self","when"] (Zgp CC):=by
 refine T_Chances___init__.ok2 sc_Chances___init__ fun f cdv A outer s H v1 v2 Q E hr hh=>?_
 have nd:=sc_Chances___init__.nd
 obtain ⟨p,dx,q,rfl,rfl,hp,k⟩:=hh
 refine' ZaB [some (.ref p),some (.ref q)] rfl ?hb ?hg
 case hb=>exact (Zaf (ZcU (K:=K) rfl (pv 0) (pv 1) rfl) (Zal (ZcU (K:=K) rfl (pv 0) Zaa rfl)))
 walk_at"rdx"
 refine Zb3 hp HChances.cl HChances.n_when (Nat.lt_of_sub_eq_succ rfl) ?_
 walk_at"rdx"
 refine Zb3 Zag HChances.cl HChances.n_asked (Nat.lt_of_sub_eq_succ rfl) ?_
 rw[ZlM,ci_all]
 exact k
inductive Pr_ask (CC:Addr) (x:V) (H:Hp) (Q:VK):Prop
 | mk (p dx q bs n) (_:x=.ref p) (_:ChAt CC p dx q H bs n) (_:Q (.bl (bs.getD n false)) (upd H p (.ins CC dx (Zbw (.ref q) (.int (n+1:Nat)))))):Pr_ask CC x H Q
def Zjb (CC:Addr):Sp:=sp1 (Pr_ask CC)
theorem sc_Chances_ask:FnScope ["self"] ["self"] (Zan Zcn):=by walk_at"fs"
theorem Zgd (B:Blt mg) (HChances:CChances K CC) (T_Chances_ask:TopM K CC "ask" "Chances.ask" Zcn ["self"]):MCal P w K mg base CC "ask" 1 ["self"] (Zjb CC):=by
 refine T_Chances_ask.ok1 sc_Chances_ask fun f cdv A outer s H v1 Q E hr hh=>?_
 have nd:=sc_Chances_ask.nd
 obtain ⟨p,dx,q,bs,n,rfl,⟨hp,hq⟩,k⟩:=hh
 refine' ZaB [some (.ref p)] rfl ?hb ?hg
 case hb=>exact (Zaf (ZcU (K:=K) rfl (pv 0) (ZaN Zbx (Zbj (K:=K) rfl (pv 0) rfl) Zaa) rfl) (Zal (Zay (pe_and (ZcN Zmk (Zbj (K:=K) rfl (pv 0) rfl) (Zbb (ZdU (K:=K) rfl) (by rfl) B.b_len Zcu (Zbc (Zbj (K:=K) rfl (pv 0) rfl) Zad)) (Zau _)) (pe_one (Zai (k_ix (K:=K) rfl) (Zbj (K:=K) rfl (pv 0) rfl) (ZaN Zej (Zbj (K:=K) rfl (pv 0) rfl) Zaa) (fun _ _=>rfl)))))))
 walk_at"rdx"
 refine ZaU hp HChances.cl HChances.n_asked Zf4 ?_
 walk_at"rdx"
 refine Zb3 hp HChances.cl HChances.n_asked (Nat.lt_of_sub_eq_succ rfl) ?_
 rw[Zk8]
 have hq':upd H p (.ins CC dx (Zbw (.ref q) (.int (n+1:Nat)))) q=some (.lst (bs.map V.bl)):=by
  rw[Zax (fun z=>by rw[z,hp] at hq;cases hq)]
  exact hq
 have hp':upd H p (.ins CC dx (Zbw (.ref q) (.int (n+1:Nat)))) p=some (.ins CC dx (Zbw (.ref q) (.int (n+1:Nat)))):=Zag
 rw[show ((n:Int)+1)=((n+1:Nat):Int) by push_cast;rfl]
 generalize upd H p (.ins CC dx (Zbw (.ref q) (.int (n+1:Nat))))=H1 at hq' hp' k
 walk_at"rdx"
 refine ZaU hp' HChances.cl HChances.n_asked Zf4 ?_
 walk_at"rdx"
 refine ZaU hp' HChances.cl HChances.n_when Zj1 ?_
 walk_at"rdx"
 refine ZbD (SqL.of hq') ?_
 rw[length_map]
 walk_at"rdx"
 by_cases hlt:n < bs.length
 ·refine ZaJ (by lia) ?_
  walk_at"rdx"
  refine ZaU hp' HChances.cl HChances.n_when Zj1 ?_
  walk_at"rdx"
  refine ZaU hp' HChances.cl HChances.n_asked Zf4 ?_
  walk_at"rdx"
  refine Zak hq' (v:=.bl (bs.getD n false)) (Zaw (n:=n) (by lia) ?_) k
  rw[getElem?_map,getElem?_eq_getElem hlt,getD_eq_getElem?_getD,getElem?_eq_getElem hlt]
  rfl
 ·refine Zao (by lia) ?_
  rw[getD_eq_getElem?_getD,getElem?_eq_none (by lia)] at k
  exact k
inductive Pr_place (C:Addr) (x:V) (H:Hp) (Q:VK):Prop
 | mk (p dx pp pf pn pl fz z P h ve) (_:x=.ref p) (_:HA C p dx pp pf pn pl (fz++[z]) H P h ve) (_:∀ t,H t=none->Q (.ref t) (upd H t (.tup [.int z.2.1,.int z.2.2.1]))):Pr_place C x H Q
def ZhZ (C:Addr):Sp:=sp1 (Pr_place C)
theorem sc_place_of:FnScope ["hand","frame"] ["hand"] (Zan Zdx):=by walk_at"fs"
theorem ZiO (HHand:CHand K C) (T_place_of:TopFn K mg "place_of" Zdx ["hand"]):Callee P w K mg base "place_of" 1 ["hand"] (ZhZ C):=by
 refine T_place_of.ok1 sc_place_of fun f cdv A outer s H v1 Q E hr hh=>?_
 have nd:=sc_place_of.nd
 obtain ⟨p,dx,pp,pf,pn,pl,fz,z,Pg,h,ve,rfl,a,k⟩:=hh
 refine' ZaB [some (.ref p),none] rfl ?hb ?hg
 case hb=>exact (Zaf (Zbd (i:=1) nd rfl (Or.inl rfl) (Zai (k_ix (K:=K) rfl) (Zbj (K:=K) rfl (pv 0) rfl) (Zcp ZbB Zaa) (fun _ _=>rfl))) (Zal (Zay (Zap (Zav (Zai (k_ix (K:=K) rfl) (pv 1) Zaa (fun _ _=>rfl)) (Zav (Zai (k_ix (K:=K) rfl) (pv 1) Zaa (fun _ _=>rfl)) Zad))))))
 have z1:=a.z1 (z:=z) (by simp)
 walk_at"rdx"
 refine ZaU a.obj HHand.cl HHand.n_frames Zbn ?_
 walk_at"rdx"
 refine Zak a.fl Zdb ?_
 walk_at"rdx"
 refine Zak (v:=.int z.2.1) z1 rfl ?_
 walk_at"rdx"
 refine Zak (v:=.int z.2.2.1) z1 rfl ?_
 walk_at"rdx"
 walk_at"mk";intro t ht
 exact k t ht
inductive Pr_room (C:Addr) (x:V) (H:Hp) (Q:VK):Prop
 | mk (p dx pp pf pn pl fz P h ve) (_:x=.ref p) (_:HA C p dx pp pf pn pl fz H P h ve) (_:Q (.bl (decide (h.frames.length<=17))) H):Pr_room C x H Q
def Zi5 (C:Addr):Sp:=sp1 (Pr_room C)
theorem sc_has_room:FnScope ["hand"] ["hand"] (Zan Zdz):=by walk_at"fs"
theorem ZiQ (B:Blt mg) (G:Glb K w mg) (HHand:CHand K C) (T_has_room:TopFn K mg "has_room" Zdz ["hand"]):Callee P w K mg base "has_room" 1 ["hand"] (Zi5 C):=by
 refine T_has_room.ok1 sc_has_room fun f cdv A outer s H v1 Q E hr hh=>?_
 have nd:=sc_has_room.nd
 obtain ⟨p,dx,pp,pf,pn,pl,fz,Pg,h,ve,rfl,a,k⟩:=hh
 refine' ZaB [some (.ref p)] rfl ?hb ?hg
 case hb=>exact (Zal (Zay (ZcN Zmk (Zbb (ZdU (K:=K) rfl) (by rfl) B.b_len Zcu (Zbc (Zbj (K:=K) rfl (pv 0) rfl) Zad)) (Zjy (by rfl) G.c_MOST_FRAMES_OVER) (Zau _))))
 walk_at"rdx"
 refine ZaU a.obj HHand.cl HHand.n_frames Zbn ?_
 walk_at"rdx"
 refine ZbD (SqL.of a.fl) ?_
 walk_at"rdx"
 have e:(fz.map fun z=>V.ref z.1.1).length=h.frames.length:=by rw[<-a.fr];simp
 rw[e,show decide (((h.frames.length:Nat):Int)<=17)=decide (h.frames.length<=17) from by congr 1;exact propext ⟨fun h=>by lia,fun h=>by lia⟩]
 exact k
inductive Pr_row_ofT (x y:V) (H:Hp) (Q:VK):Prop
 | mk (own P pp fr f at' bx d r) (_:x=.ref pp) (_:y=.ref fr) (_:PgAt own H P pp) (_:H fr=some (.tup [.int f,.int at',bx])) (_:0<=f) (_:P[f.toNat]?=some d) (_:0<=at') (_:d.rows[at'.toNat]?=some r) (_:∀ v,Rep H (rowD (Rw.row r)) v->Q v H):Pr_row_ofT x y H Q
def Zfp:Sp:=sp2 (Pr_row_ofT)
theorem Zkb (T_row_of:TopFn K mg "row_of" Zea ["program","frame"]):Callee P w K mg base "row_of" 1 ["program","frame"] Zfp:=by
 refine T_row_of.ok2 sc_row_of fun f cdv A outer s H v1 v2 Q E hr h=>?_
 have nd:=sc_row_of.nd
 obtain ⟨own,Pg,pp,fr,fi,at',bx,d,r,rfl,rfl,⟨vs,hv,_,hl,hd⟩,hf,f0,ed,a0,er,k⟩:=h
 refine' ZaB [some (.ref pp),some (.ref fr)] rfl ?hb ?hg
 case hb=>exact (Zal (Zay (Zai (k_ix (K:=K) rfl) (Zai (k_ix (K:=K) rfl) (Zai (k_ix (K:=K) rfl) (pv 0) (Zai (k_ix (K:=K) rfl) (pv 1) Zaa (fun _ _=>rfl)) (fun _ _=>rfl)) Zaa (fun _ _=>rfl)) (Zai (k_ix (K:=K) rfl) (pv 1) Zaa (fun _ _=>rfl)) (fun _ _=>rfl))))
 walk_at"rdx"
 refine Zaq (v:=.int fi) hf rfl ?_
 have hlt:fi.toNat < vs.length:=by rw[hl];exact (List.getElem?_eq_some_iff.mp ed).1
 obtain ⟨t,q,ys,e1,h1,h2,_,rr⟩:=hd _ _ _ ed (getElem?_eq_getElem hlt)
 refine Zak hv (Zaw (n:=fi.toNat) (by lia) (getElem?_eq_getElem hlt)) ?_
 rw[e1]
 walk_at"rdx"
 refine Zaq (v:=.ref q) h1 rfl ?_
 walk_at"rdx"
 refine Zaq (v:=.int at') hf rfl ?_
 obtain ⟨u,eu,ru⟩:=rr.get (i:=at'.toNat) (d:=rowD r.row) (by unfold ZdN;rw[getElem?_map,er];rfl)
 refine Zak h2 (Zaw (n:=at'.toNat) (by lia) eu) ?_
 exact k u ru
inductive LastG (H:Hp) (P:List Df) (st:Std) (ws:List Int) (x:V):Prop
 | mk (t l tf fa:Addr) (vd:V) (ys xs:List V) (s:SF) (d:Df) (r:Rw) (e:x=.ref t) (ht:H t=some (.tup [.int st.many,.ref l,vd])) (hl:H l=some (.lst ys)) (hy:atI ys (-1)=some (.ref tf)) (hf:H tf=some (.tup [.int s.1,.int s.2.1,.ref fa])) (ha:H fa=some (.tup xs)) (rx:Reps H (s.2.2.map fmD) xs) (f0:0<=s.1) (ed:P[s.1.toNat]?=some d) (a0:0<=s.2.1) (er:d.rows[s.2.1.toNat]?=some r) (fit:st.deed.fits r) (ask:st.deed.asks=true->0<=r.box1/\r.box1.toNat < s.2.2.length) (lr:ZfW P st=some r) (bn:boxN P st ws=wF ws (s.2.2.getD r.box1.toNat (0,[]))) (fo:∀ f∈s.2.2,FmO ws.length f) (rp:Reps H (st.paper.map sfDD) ys) (rd:Rep H st.deed.d vd)
theorem ZeO {H:Hp} {P:List Df} {st:Std} {ws:List Int} {x:V} (h:StdAt H st x) (ok:SOk P st ws):LastG H P st ws x:=by
 obtain ⟨t,l,ys,vd,rfl,ht,hl,rp,rd⟩:=h
 obtain ⟨ps,s,d,r,ep,f0,ed,a0,er,fit,ask⟩:=ok.last
 have hlen:=rp.length
 rw[ep] at hlen
 simp only[length_map,length_append,length_cons,length_nil] at hlen
 obtain ⟨y,ey,ry⟩:=rp.get (i:=ps.length) (d:=sfDD s) (by rw[ep];simp)
 obtain ⟨tf,zs,rfl,htf,rz⟩:=ZaG (show Rep H (.tup [.int s.1,.int s.2.1,.tup (s.2.2.map fmD)]) y from ry)
 obtain ⟨u1,zr,rfl,r1,rz⟩:=Zaj rz
 obtain ⟨u2,zr,rfl,r2,rz⟩:=Zaj rz
 obtain ⟨u3,zr,rfl,r3,rz⟩:=Zaj rz
 obtain rfl:=ZaD rz
 obtain rfl:=ZaK r1
 obtain rfl:=ZaK r2
 obtain ⟨fa,xs,rfl,hfa,rx⟩:=ZaG r3
 have lr:ZfW P st=some r:=by
  unfold ZfW
  rw[ep,getLast?_concat]
  show ZbL P s.1 s.2.1=_
  unfold ZbL
  rw[ed]
  exact er
 refine ⟨t,l,tf,fa,vd,ys,xs,s,d,r,rfl,ht,hl,?_,htf,hfa,rx,f0,ed,a0,er,fit,ask,lr,?_,(ok.fms s (by rw[ep];simp)).2,rp,rd⟩
 ·rcases eq_nil_or_concat ys with e|⟨l0,y0,e⟩
  ·rw[e] at hlen;simp at hlen
  ·have e':ys=l0++[y0]:=by simpa using e
   subst e'
   simp only[length_append,length_cons,length_nil] at hlen
   rw[getElem?_append_right (by lia),show ps.length - l0.length=0 by lia] at ey
   simp at ey
   rw[ey]
   exact Zge
 ·unfold boxN
  rw[lr,ep,getLast?_concat]
inductive Pr_last_row (x y:V) (H:Hp) (Q:VK):Prop
 | mk (own P pp st ws r) (_:x=.ref pp) (_:PgAt own H P pp) (_:StdAt H st y) (_:SOk P st ws) (_:ZfW P st=some r) (_:∀ v,Rep H (rowD (Rw.row r)) v->Q v H):Pr_last_row x y H Q
def ZdM:Sp:=sp2 (Pr_last_row)
theorem sc_last_row:FnScope ["program","stand"] ["program","stand"] (Zan Zdy):=by walk_at"fs"
theorem ZiP (T_last_row:TopFn K mg "last_row" Zdy ["program","stand"]) (Crow_ofT:Callee P w K mg base "row_of" 1 ["program","frame"] Zfp):Callee P w K mg base "last_row" 2 ["program","stand"] ZdM:=by
 refine T_last_row.ok2 sc_last_row fun f cdv A outer s H v1 v2 Q E hr h=>?_
 have nd:=sc_last_row.nd
 have Crow_of:=Crow_ofT
 obtain ⟨own,Pg,pp,st,ws,r,rfl,pg,sa,ok,lr,k⟩:=h
 obtain ⟨t,l,tf,fa,vd,ys,xs,sf,d,r',rfl,ht,hl,hy,hf,ha,rx,f0,ed,a0,er,fit,ask,lr',bn,fo,rp,rd⟩:=ZeO sa ok
 rw[lr] at lr'
 cases lr'
 refine' ZaB [some (.ref pp),some (.ref t)] rfl ?hb ?hg
 case hb=>exact (Zal (Zay (ZaS Crow_of hr.m (by rfl) (Zac (pv 0) (Zav (Zai (k_ix (K:=K) rfl) (Zai (k_ix (K:=K) rfl) (pv 1) Zaa (fun _ _=>rfl)) (Zcp ZbB Zaa) (fun _ _=>rfl)) Zad)))))
 walk_at"rdx"
 refine Zaq (v:=.ref l) ht rfl ?_
 walk_at"rdx"
 refine Zak hl hy ?_
 walk_at"rdx"
 exact use2 ⟨own,Pg,pp,tf,sf.1,sf.2.1,.ref fa,d,r,rfl,rfl,pg,hf,f0,ed,a0,er,k⟩
end
end My
end
section
namespace My
open PySem L2
section
variable {P:Program} {w:World} {K:W.Frag} {mg:Str->Option Value} {base:Heap}
variable {C CC:Addr}
theorem sc_worth:FnScope ["form","words"] ["form","words"] (Zan ZfI):=by walk_at"fs"
inductive Pr_worth (K:W.Frag) (x y:V) (H:Hp) (Q:VK):Prop
 | mk (c ps a ws) (_:Rep H (formD c ps) x) (_:y=.ref a) (_:SqL K H a ((ws:List Int).map V.int)) (_:ps.length<=100000) (_:∀ p∈ps,0<=p.2/\p.2 < ws.length/\p.1.natAbs < 2 ^ 8000) (_:∀ z∈ws,z.natAbs < 2 ^ 8000) (_:∀ H',Same H H'->Q (.int (Zlj c ps ws)) H'):Pr_worth K x y H Q
def Zbe (K:W.Frag):Sp:=sp2 (Pr_worth K)
theorem ZmN (B:Blt mg) (T_worth:TopFn K mg "worth" ZfI ["form","words"]):Callee P w K mg base "worth" 1 ["form","words"] (Zbe K):=by
 refine T_worth.ok2 sc_worth fun f cdv A outer s H v1 v2 Q E hr h=>?_
 have nd:=sc_worth.nd
 obtain ⟨c,ps,a,ws,r,rfl,hw,hl,hp,hz,k⟩:=h
 refine' ZaB [some v1,some (.ref a)] rfl ?hb ?hg
 case hb=>exact (Zal (Zay (ZaN Zbx (Zai (k_ix (K:=K) rfl) (pv 0) Zaa (fun _ _=>rfl)) (Zbb (k_sum (K:=K) rfl rfl) (by rfl) B.b_sum ZlK (ZcH (Zb1 (LN:=["a","w"]) (FN:=["words"]) (fr:=[1]) rfl (Zd0 (by rfl)) (ZcI (K:=K) rfl (Zai (k_ix (K:=K) rfl) (pv 0) Zaa (fun _ _=>rfl))) (fun cl C fp pins s H=>(ZbQ (K:=K) (n:=2) rfl rfl (ZaF (ZaA (i:=0) (show ((["a","w"]:List Str)++(["words"]:List Str)).Nodup by decide +kernel) rfl (Or.inl rfl)) (ZaF (ZaA (i:=1) (show ((["a","w"]:List Str)++(["words"]:List Str)).Nodup by decide +kernel) rfl (Or.inl rfl)) Zb5)))) (fun cl C fp pins s H=>ZbR) (fun cl C fp pins s H=>(ZaN Zet (pv 0) (Zai (k_ix (K:=K) rfl) (pv 2) (pv 1) (fun _ _=>rfl))))) Zad)))))
 walk_at"rdx"
 refine Zjn (n:=0) r rfl rfl ?_
 walk_at"rdx"
 refine Zfw (n:=1) r rfl rfl fun v rv=>?_
 refine ZfY rv fun b xs e hb rx=>?_
 have hlen:=rx.length
 rw[length_map] at hlen
 refine ZeI (xs:=xs) (Za2 (by lia)) (fun i ys σ H1=>Ex2 fun x1 x2=>An3 (σ=[x1,x2,some (.ref a)]) (Same H H1) (ys=((ps.take i).map fun p=>p.1 * ws.getD p.2.toNat 0).map V.int)) ⟨none,none,rfl,Same.refl _,rfl⟩ (fun i ys σ H1 _ z_=>by obtain ⟨_,_,_,s1,_⟩:=z_;exact SqT.of (s1 _ _ hb)) ?_ ?_
 ·rintro i x ys σ H1 hx hle hlt ⟨x1,x2,rfl,s1,rfl⟩
  obtain ⟨d,ed,rd⟩:=rx.get' hx
  rw[getElem?_map] at ed
  obtain ⟨p,ep,rfl⟩:=Option.map_eq_some_iff.mp ed
  obtain ⟨q,zs,rfl,hq,rz⟩:=ZaG rd
  obtain ⟨u1,r1,rfl,e1,rz⟩:=Zaj rz
  obtain ⟨u2,r2,rfl,e2,rz⟩:=Zaj rz
  obtain rfl:=ZaD rz
  obtain rfl:=ZaK e1
  obtain rfl:=ZaK e2
  obtain ⟨h0,h1,h2⟩:=hp p (mem_of_getElem? ep)
  refine Zb4 (s1 _ _ hq) rfl ?_
  walk_at"rdx"
  have hwi:ws[p.2.toNat]?=some (ws.getD p.2.toNat 0):=by
   rw[getD_eq_getElem?_getD]
   rw[getElem?_eq_getElem (by lia)]
   rfl
  refine .inl ⟨a,_,_,_,rfl,rfl,hw.mono s1,Zaw (n:=p.2.toNat) (by lia) (by rw[getElem?_map,hwi];rfl),?_⟩
  refine rd_I ⟨h2,hz _ (mem_of_getElem? hwi)⟩ ?_
  refine ⟨hlt,by simpa using hle,_,_,rfl,s1,?_⟩
  rw[take_add_one,ep]
  simp
 ·rintro ys σ H1 _ ⟨x1,x2,rfl,s1,rfl⟩ q hq
  walk_at"rdx"
  refine Zlp (SqL.of Zag) ?_
  walk_at"rdx"
  rw[<-hlen,take_length]
  exact k _ (s1.trans (Same.new hq))
theorem ZgT {xs:List V} {k:Nat} (h:k<=xs.length):cutV xs (some (k:Int)) none=xs.drop k:=Zk7 h
inductive DedG (H:Hp) (d:Dd) (x:V):Prop
 | mk (t:Addr) (xs:List V) (e:x=.ref t) (h:H t=some (.tup (.str d.word::xs))) (r:Reps H d.parts xs)
theorem Zf2 {H:Hp} {d:Dd} {x:V} (r:Rep H d.d x):DedG H d x:=by
 obtain ⟨t,zs,rfl,ht,rz⟩:=ZaG (show Rep H (.tup (.str d.word::d.parts)) x from r)
 obtain ⟨u,zr,rfl,r1,rz2⟩:=Zaj rz
 obtain rfl:u=.str d.word:=by rwa [Rep] at r1
 exact ⟨t,zr,rfl,ht,rz2⟩
def ZeW:Sp:=sp1 fun x H Q=>∃ d:Dd,Rep H d.d x/\∀ q xs H',H' q=some (.tup xs)->Reps H' (d.edges.map Edg.d) xs->Same H H'->Q (.ref q) H'
theorem sc_edges_of:FnScope ["deed"] ["deed"] (Zan ZdA):=by walk_at"fs"
theorem ZiR (T_edges_of:TopFn K mg "edges_of" ZdA ["deed"]):Callee P w K mg base "edges_of" 1 ["deed"] ZeW:=by
 refine T_edges_of.ok1 sc_edges_of fun f cdv A outer s H v1 Q E hr hh=>?_
 have nd:=sc_edges_of.nd
 obtain ⟨d,rd,k⟩:=hh
 obtain ⟨t,xs,rfl,ht,rx⟩:=Zf2 rd
 refine' ZaB [some (.ref t)] rfl ?hb ?hg
 case hb=>exact (Zaf (ZaZ (Zar ZaX (Zai (k_ix (K:=K) rfl) (pv 0) Zaa (fun _ _=>rfl)) Zat (Zau _)) (Zal (Zay (ZcG (ZjJ (K:=K) rfl) (pv 0) (Zdm Zaa) Zdn))) ZaE) (Zal (Zay (ZcG (ZjJ (K:=K) rfl) (pv 0) (Zdm Zaa) Zdn))))
 walk_at"rdx"
 refine Zaq (v:=.str d.word) ht (Zaw (n:=0) rfl rfl) ?_
 walk_at"rdx"
 refine Zbr (fun hw=>?_) (fun hw=>?_)
 ·walk_at"rdx"
  have hl:=rx.length
  cases d with
  | hold wn n e =>
   refine Zgw ht fun q H' hq s'=>k q _ H' hq ?_ s'
   rw[show cutV (V.str (Dd.hold wn n e).word::xs) (some 3) none=xs.drop 2 from ZgT (k:=3) (xs:=V.str (Dd.hold wn n e).word::xs) (by simp only[length_cons,Dd.parts,length_nil] at hl ⊢;lia)]
   have r2:=rx.mono s'.ts
   show Reps H' [e.d] (xs.drop 2)
   obtain ⟨u,zr,rfl,r1,rz⟩:=Zaj r2
   obtain ⟨u2,zr,rfl,r1,rz⟩:=Zaj rz
   exact rz
  | go e=>exact absurd hw (by show ¬ (Str.ofString "go")=_;decide)
  | test y n=>exact absurd hw (by show ¬ (Str.ofString "test")=_;decide)
  | tell e=>exact absurd hw (by show ¬ (Str.ofString "tell")=_;decide)
  | take e=>exact absurd hw (by show ¬ (Str.ofString "take")=_;decide)
  | leave=>exact absurd hw (by show ¬ (Str.ofString "leave")=_;decide)
 ·walk_at"rdx"
  refine Zgw ht fun q H' hq s'=>k q _ H' hq ?_ s'
  rw[show cutV (V.str d.word::xs) (some 1) none=xs from ZgT (k:=1) (xs:=V.str d.word::xs) (by simp)]
  have r2:=rx.mono s'.ts
  show Reps H' _ xs
  cases d with
  | hold wn n e=>exact absurd rfl hw
  | go e=>exact r2
  | test y n=>exact r2
  | tell e=>exact r2
  | take e=>exact r2
  | leave=>exact r2
theorem Zjf {d:Dd} {r:Rw} (a:d.asks=true) (f:d.fits r):r.row.2[0]?=some (.int r.box1):=by
 cases d with
 | test y n =>
  rcases f with ⟨p,t,rfl⟩|⟨p,t,rfl⟩
  ·rfl
  ·rfl
 | tell e=>obtain ⟨p,rfl⟩:=f;rfl
 | go e=>cases a
 | take e=>cases a
 | hold _ _ e=>cases a
 | leave=>cases a
inductive Pr_box_number (x y z:V) (H:Hp) (Q:VK):Prop
 | mk (own P pp st ws qw) (_:x=.ref pp) (_:PgAt own H P pp) (_:StdAt H st y) (_:z=.ref qw) (_:H qw=some (.lst ((ws:List Int).map V.int))) (_:SOk P st ws) (_:st.deed.asks=true) (_:∀ H',Same H H'->Q (.int (boxN P st ws)) H'):Pr_box_number x y z H Q
def ZcX:Sp:=sp3 (Pr_box_number)
theorem sc_box_number:FnScope ["program","stand","words"] ["program","stand","words"] (Zan ZcA):=by walk_at"fs"
theorem ZgY (T_box_number:TopFn K mg "box_number" ZcA ["program","stand","words"]) (Cworth:Callee P w K mg base "worth" 1 ["form","words"] (Zbe K)) (Clast_row:Callee P w K mg base "last_row" 2 ["program","stand"] ZdM):Callee P w K mg base "box_number" 3 ["program","stand","words"] ZcX:=by
 refine T_box_number.ok3 sc_box_number fun f cdv A outer s H v1 v2 v3 Q E hr hh=>?_
 have nd:=sc_box_number.nd
 obtain ⟨own,Pg,pp,st,ws,qw,rfl,pg,sa,rfl,hqw,ok,ask,k⟩:=hh
 have sa0:=sa
 obtain ⟨t,l,tf,fa,vd,ys,xs,sf,d,r,rfl,ht,hl,hy,hf,ha,rx,f0,ed,a0,er,fit,ask',lr,bn,fo,rp,rd⟩:=ZeO sa ok
 obtain ⟨b0,b1⟩:=ask' ask
 have hxl:=rx.length
 rw[length_map] at hxl
 refine' ZaB [some (.ref pp),some (.ref t),some (.ref qw)] rfl ?hb ?hg
 case hb=>exact (Zal (Zay (ZaS Cworth hr.m (by rfl) (Zav (Zai (k_ix (K:=K) rfl) (Zai (k_ix (K:=K) rfl) (Zai (k_ix (K:=K) rfl) (Zai (k_ix (K:=K) rfl) (pv 1) Zaa (fun _ _=>rfl)) (Zcp ZbB Zaa) (fun _ _=>rfl)) Zaa (fun _ _=>rfl)) (Zai (k_ix (K:=K) rfl) (ZaS Clast_row hr.m (by rfl) (Zac (pv 0) (Zac (pv 1) Zad))) Zaa (fun _ _=>rfl)) (fun _ _=>rfl)) (Zac (pv 2) Zad)))))
 walk_at"rdx"
 refine Zaq (v:=.ref l) ht rfl ?_
 walk_at"rdx"
 refine Zak hl hy ?_
 walk_at"rdx"
 refine Zaq (v:=.ref fa) hf rfl ?_
 walk_at"rdx"
 refine use2 ⟨own,Pg,pp,st,ws,r,rfl,pg,sa0,ok,lr,fun v rv=>?_⟩
 walk_at"rdx"
 refine Zaz (n:=0) rv rfl (Zjf ask fit) ?_
 obtain ⟨u,eu,ru⟩:=rx.get (i:=r.box1.toNat) (d:=fmD (sf.2.2.getD r.box1.toNat (0,[]))) (by rw[getElem?_map,getD_eq_getElem?_getD,getElem?_eq_getElem b1];rfl)
 refine Zaq ha (Zaw (n:=r.box1.toNat) (by lia) eu) ?_
 walk_at"rdx"
 have hm:sf.2.2.getD r.box1.toNat (0,[])∈sf.2.2:=by
  rw[getD_eq_getElem?_getD,getElem?_eq_getElem b1]
  exact getElem_mem b1
 have fo':=fo _ hm
 refine use2 ⟨_,_,qw,ws,ru,rfl,SqL.of hqw,Nat.le_trans fo'.l (by decide),fun p hp=>⟨(fo'.p p hp).2.1,(fo'.p p hp).2.2,Zce (fo'.p p hp).1⟩,fun z hz=>Zce (ok.wo.2 z hz),fun H' s'=>?_⟩
 have:=k H' s'
 rw[bn] at this
 exact this
theorem ZjU {d:Dd} {r:Rw} {y n:Edg} (h:d=.test y n) (f:d.fits r) (z:Int):(if r.row.1="zero" then decide (z=0) else decide (z < 0))=r.goes z:=by
 subst h
 rcases f with ⟨p,t,rfl⟩|⟨p,t,rfl⟩
 ·rfl
 ·rw[if_neg (by show ¬ (Str.ofString "below")=_;decide)]
  rfl
inductive Pr_edge_ahead (x y z:V) (H:Hp) (Q:VK):Prop
 | mk (own P pp st ws qw) (_:x=.ref pp) (_:PgAt own H P pp) (_:StdAt H st y) (_:z=.ref qw) (_:H qw=some (.lst ((ws:List Int).map V.int))) (_:SOk P st ws) (_:Za1 P st ws=none->∀ H',Same H H'->Q .non H') (_:∀ e v H',Za1 P st ws=some e->Rep H' e.d v->Same H H'->Q v H'):Pr_edge_ahead x y z H Q
def Zd9:Sp:=sp3 (Pr_edge_ahead)
theorem sc_edge_ahead:FnScope ["program","stand","words","edges"] ["program","stand","words"] (Zan Zcz):=by walk_at"fs"
theorem ZgX (B:Blt mg) (T_edge_ahead:TopFn K mg "edge_ahead" Zcz ["program","stand","words"]) (Cedges_of:Callee P w K mg base "edges_of" 1 ["deed"] ZeW) (Cgoes_to_row:Callee P w K mg base "goes_to_row" 1 ["row","number"] Zhd) (Clast_row:Callee P w K mg base "last_row" 2 ["program","stand"] ZdM) (Cbox_number:Callee P w K mg base "box_number" 3 ["program","stand","words"] ZcX):Callee P w K mg base "edge_ahead" 4 ["program","stand","words"] Zd9:=by
 refine T_edge_ahead.ok3 sc_edge_ahead fun f cdv A outer s H v1 v2 v3 Q E hr hh=>?_
 have nd:=sc_edge_ahead.nd
 obtain ⟨own,Pg,pp,st,ws,qw,rfl,pg,sa,rfl,hqw,ok,kn,ks⟩:=hh
 have sa0:=sa
 obtain ⟨t,l,tf,fa,vd,ys,xs,sf,d,r,rfl,ht,hl,hy,hf,ha,rx,f0,ed,a0,er,fit,ask',lr,bn,fo,rp,rd⟩:=ZeO sa ok
 refine' ZaB [some (.ref pp),some (.ref t),some (.ref qw),none] rfl ?hb ?hg
 case hb=>exact (Zaf (Zbl (i:=3) nd rfl (Or.inl rfl) (ZaS Cedges_of hr.m (by rfl) (Zav (Zai (k_ix (K:=K) rfl) (pv 1) Zaa (fun _ _=>rfl)) Zad))) (Zaf (ZaZ (Zar ZaX (Zbb (ZdU (K:=K) rfl) (by rfl) B.b_len Zcu (Zac (pv 3) Zad)) Zaa (Zau _)) (Zal (Zay Zcr)) ZaE) (Zaf (ZaZ (PW.pt (Zbk (Zar ZaX (Zai (k_ix (K:=K) rfl) (Zai (k_ix (K:=K) rfl) (pv 1) Zaa (fun _ _=>rfl)) Zaa (fun _ _=>rfl)) Zat (Zau _)) (Zba (pt_not (ZdK (ZaS Cgoes_to_row hr.m (by rfl) (Za4 (ZaS Clast_row hr.m (by rfl) (Zac (pv 0) (Zac (pv 1) Zad))) (Za4 (ZaS Cbox_number hr.m (by rfl) (Zac (pv 0) (Zac (pv 1) (Zac (pv 2) Zad)))) Zad)))))))) (Zal (Zay (Zai (k_ix (K:=K) rfl) (pv 3) Zaa (fun _ _=>rfl)))) ZaE) (Zal (Zay (Zai (k_ix (K:=K) rfl) (pv 3) Zaa (fun _ _=>rfl)))))))
 walk_at"rdx"
 refine Zaq (v:=vd) ht rfl ?_
 walk_at"rdx"
 refine use1 ⟨st.deed,rd,fun q es H1 hq re s1=>?_⟩
 have hel:=re.length
 rw[length_map] at hel
 walk_at"rdx"
 refine Zkw (SqT.of hq) ?_
 walk_at"rdx"
 obtain ⟨td,dx,rfl,hd,rdx⟩:=Zf2 rd
 cases hdd:st.deed with
 | leave =>
  rw[hdd] at hel
  refine ZaJ (by show ((es.length:Nat):Int)=0;rw[<-hel];rfl) ?_
  walk_at"rdx"
  exact kn (by unfold Za1;rw[hdd];rfl) _ s1
 | test y n =>
  rw[hdd] at hel re hd
  refine Zao (by rw[<-hel];show ¬ ((2:Nat):Int)=0;decide) ?_
  walk_at"rdx"
  refine Zaq (v:=.ref td) (s1 _ _ ht) rfl ?_
  walk_at"rdx"
  refine Zaq (v:=.str "test") (s1 _ _ hd) (Zaw (n:=0) rfl rfl) ?_
  walk_at"rdx"
  refine ZaJ rfl ?_
  walk_at"rdx"
  refine use2 ⟨own,Pg,pp,st,ws,r,rfl,pg.by (OSame.of s1) s1.ts (fun x hx=>.inl hx),sa0.mono s1,ok,lr,fun v rv=>?_⟩
  walk_at"rdx"
  refine use3 ⟨own,Pg,pp,st,ws,qw,rfl,pg.by (OSame.of s1) s1.ts (fun x hx=>.inl hx),sa0.mono s1,rfl,s1 _ _ hqw,ok,by rw[hdd];rfl,fun H2 s2=>?_⟩
  walk_at"rdx"
  refine use2 ⟨r.row,boxN Pg st ws,rv.mono s2.ts,rfl,?_⟩
  rw[ZjU hdd fit]
  obtain ⟨u1,zr,rfl,r1,rz⟩:=Zaj re
  obtain ⟨u2,zr,rfl,r2,rz⟩:=Zaj rz
  have hq2:=s2 _ _ hq
  cases hg:r.goes (boxN Pg st ws) with
  | true =>
   walk_at"rdx"
   refine Zaq (v:=u1) hq2 (Zaw (n:=0) rfl rfl) ?_
   exact ks y u1 _ (by unfold Za1;rw[hdd,lr];simp[hg]) (r1.mono s2.ts) (s1.trans s2)
  | false =>
   walk_at"rdx"
   refine Zaq (v:=u2) hq2 (Zaw (n:=1) rfl rfl) ?_
   exact ks n u2 _ (by unfold Za1;rw[hdd,lr];simp[hg]) (r2.mono s2.ts) (s1.trans s2)
 | go e =>
  rw[hdd] at hel re hd
  refine Zao (by rw[<-hel];show ¬ ((1:Nat):Int)=0;decide) ?_
  walk_at"rdx"
  refine Zaq (v:=.ref td) (s1 _ _ ht) rfl ?_
  walk_at"rdx"
  refine Zaq (v:=.str "go") (s1 _ _ hd) (Zaw (n:=0) rfl rfl) ?_
  walk_at"rdx"
  refine Zao (by decide) ?_
  walk_at"rdx"
  obtain ⟨u1,zr,rfl,r1,rz⟩:=Zaj re
  refine Zaq (v:=u1) hq (Zaw (n:=0) rfl rfl) ?_
  exact ks e u1 _ (by unfold Za1;rw[hdd];rfl) r1 s1
 | tell e =>
  rw[hdd] at hel re hd
  refine Zao (by rw[<-hel];show ¬ ((1:Nat):Int)=0;decide) ?_
  walk_at"rdx"
  refine Zaq (v:=.ref td) (s1 _ _ ht) rfl ?_
  walk_at"rdx"
  refine Zaq (v:=.str "tell") (s1 _ _ hd) (Zaw (n:=0) rfl rfl) ?_
  walk_at"rdx"
  refine Zao (by decide) ?_
  walk_at"rdx"
  obtain ⟨u1,zr,rfl,r1,rz⟩:=Zaj re
  refine Zaq (v:=u1) hq (Zaw (n:=0) rfl rfl) ?_
  exact ks e u1 _ (by unfold Za1;rw[hdd];rfl) r1 s1
 | take e =>
  rw[hdd] at hel re hd
  refine Zao (by rw[<-hel];show ¬ ((1:Nat):Int)=0;decide) ?_
  walk_at"rdx"
  refine Zaq (v:=.ref td) (s1 _ _ ht) rfl ?_
  walk_at"rdx"
  refine Zaq (v:=.str "take") (s1 _ _ hd) (Zaw (n:=0) rfl rfl) ?_
  walk_at"rdx"
  refine Zao (by decide) ?_
  walk_at"rdx"
  obtain ⟨u1,zr,rfl,r1,rz⟩:=Zaj re
  refine Zaq (v:=u1) hq (Zaw (n:=0) rfl rfl) ?_
  exact ks e u1 _ (by unfold Za1;rw[hdd];rfl) r1 s1
 | hold wn n e =>
  rw[hdd] at hel re hd
  refine Zao (by rw[<-hel];show ¬ ((1:Nat):Int)=0;decide) ?_
  walk_at"rdx"
  refine Zaq (v:=.ref td) (s1 _ _ ht) rfl ?_
  walk_at"rdx"
  refine Zaq (v:=.str "hold") (s1 _ _ hd) (Zaw (n:=0) rfl rfl) ?_
  walk_at"rdx"
  refine Zao (by decide) ?_
  walk_at"rdx"
  obtain ⟨u1,zr,rfl,r1,rz⟩:=Zaj re
  refine Zaq (v:=u1) hq (Zaw (n:=0) rfl rfl) ?_
  exact ks e u1 _ (by unfold Za1;rw[hdd];rfl) r1 s1
end
end My
end
section
namespace My
open PySem L2
section
variable {P:Program} {w:World} {K:W.Frag} {mg:Str->Option Value} {base:Heap}
variable {C CC:Addr}
inductive EdgG (H:Hp) (e:Edg) (x:V):Prop
 | mk (t q:Addr) (xs:List V) (ex:x=.ref t) (ht:H t=some (.tup [.int e.rows,.ref q,.int e.k])) (hq:H q=some (.tup xs)) (r:Reps H (e.moves.map fmD) xs)
theorem Zf1 {H:Hp} {e:Edg} {x:V} (r:Rep H e.d x):EdgG H e x:=by
 obtain ⟨t,zs,rfl,ht,rz⟩:=ZaG (show Rep H (.tup [.int e.rows,.tup (e.moves.map fmD),.int e.k]) x from r)
 obtain ⟨u1,zr,rfl,r1,rz1⟩:=Zaj rz
 obtain ⟨u2,zr,rfl,r2,rz2⟩:=Zaj rz1
 obtain ⟨u3,zr,rfl,r3,rz3⟩:=Zaj rz2
 obtain rfl:=ZaD rz3
 obtain rfl:=ZaK r1
 obtain rfl:=ZaK r3
 obtain ⟨q,xs,rfl,hq,rx⟩:=ZaG r2
 exact ⟨t,q,xs,rfl,ht,hq,rx⟩
inductive StdG (H:Hp) (st:Std) (x:V):Prop
 | mk (t l td:Addr) (ys xs:List V) (e:x=.ref t) (ht:H t=some (.tup [.int st.many,.ref l,.ref td])) (hl:H l=some (.lst ys)) (hd:H td=some (.tup (.str st.deed.word::xs))) (rp:Reps H (st.paper.map sfDD) ys) (rx:Reps H st.deed.parts xs)
theorem Zdi {H:Hp} {st:Std} {x:V} (h:StdAt H st x):StdG H st x:=by
 obtain ⟨t,l,ys,vd,rfl,ht,hl,rp,rd⟩:=h
 obtain ⟨td,xs,rfl,hd,rx⟩:=Zf2 rd
 exact ⟨t,l,td,ys,xs,rfl,ht,hl,hd,rp,rx⟩
theorem ZkJ (d:Dd):(deedRowsT.lookup d.word).isSome=d.own:=by
 cases d with
 | go e=>show (deedRowsT.lookup (Str.ofString "go")).isSome=false;decide
 | test y n=>show (deedRowsT.lookup (Str.ofString "test")).isSome=true;decide
 | tell e=>show (deedRowsT.lookup (Str.ofString "tell")).isSome=true;decide
 | take e=>show (deedRowsT.lookup (Str.ofString "take")).isSome=true;decide
 | hold _ _ e=>show (deedRowsT.lookup (Str.ofString "hold")).isSome=false;decide
 | leave=>show (deedRowsT.lookup (Str.ofString "leave")).isSome=false;decide
inductive Pr_rows_ahead (x y:V) (H:Hp) (Q:VK):Prop
 | mk (st e) (_:StdAt H st x) (_:Rep H e.d y) (_:Q (.int (ZbK st.deed e)) H):Pr_rows_ahead x y H Q
def ZbY:Sp:=sp2 (Pr_rows_ahead)
theorem sc_rows_ahead:FnScope ["stand","edge"] ["stand","edge"] (Zan Zcx):=by walk_at"fs"
theorem ZgV (G:Glb K w mg) (T_rows_ahead:TopFn K mg "rows_ahead" Zcx ["stand","edge"]):Callee P w K mg base "rows_ahead" 1 ["stand","edge"] ZbY:=by
 refine T_rows_ahead.ok2 sc_rows_ahead fun f cdv A outer s H v1 v2 Q E hr hh=>?_
 have nd:=sc_rows_ahead.nd
 obtain ⟨st,e,sa,re,k⟩:=hh
 obtain ⟨t,l,td,ys,xs,rfl,ht,hl,hd,rp,rx⟩:=Zdi sa
 obtain ⟨te,q,ms,rfl,hte,hq,rm⟩:=Zf1 re
 refine' ZaB [some (.ref t),some (.ref te)] rfl ?hb ?hg
 case hb=>exact (Zal (Zay (ZdD (Zar (Zml (K:=K) (w:=w) (tb:=deedRowsT) rfl rfl) (Zai (k_ix (K:=K) rfl) (Zai (k_ix (K:=K) rfl) (pv 0) Zaa (fun _ _=>rfl)) Zaa (fun _ _=>rfl)) (pe_cd (K:=K) (w:=w) (by rfl) G.c_DEED_ROWS) (by with_unfolding_all rfl)) (ZaN Zbx (Zai (k_ix (K:=K) rfl) (pv 1) Zaa (fun _ _=>rfl)) Zaa) (Zai (k_ix (K:=K) rfl) (pv 1) Zaa (fun _ _=>rfl)))))
 walk_at"rdx"
 refine Zaq (v:=.ref td) ht rfl ?_
 walk_at"rdx"
 refine Zaq (v:=.str st.deed.word) hd (Zaw (n:=0) rfl rfl) ?_
 walk_at"rdx"
 refine rd_cd fun a ca=>?_
 refine ZlZ ca ?_
 rw[ZkJ]
 unfold ZbK at k
 cases ho:st.deed.own with
 | true =>
  rw[ho] at k
  walk_at"rdx"
  refine Zaq (v:=.int e.rows) hte rfl ?_
  walk_at"rdx"
  exact k
 | false =>
  rw[ho] at k
  walk_at"rdx"
  refine Zaq (v:=.int e.rows) hte rfl ?_
  exact k
def EdgV (H:Hp) (o:Option Edg) (v:V):Prop:=(o=none/\v=.non)\/∃ e,o=some e/\Rep H e.d v
def whyV:Option Str->V
 | none=>.non
 | some s=>.str s
inductive Pr_away (C:Addr) (x y z u v:V) (H:Hp) (Q:VK):Prop
 | mk (p dx pp pf pn pl fz P h ve st ws qw most) (_:x=.ref p) (_:HA C p dx pp pf pn pl fz H P h ve) (_:StdAt H st y) (_:z=.ref qw) (_:H qw=some (.lst ((ws:List Int).map V.int))) (_:SOk P st ws) (_:EdgV H (Za1 P st ws) u) (_:v=.int most) (_:Q (whyV (whyA most h st ws (Za1 P st ws))) H):Pr_away C x y z u v H Q
def Zja (C:Addr):Sp:=sp5 (Pr_away C)
theorem sc_away_reason:FnScope ["hand","stand","words","edge","most","deed"] ["hand","stand","words","edge","most"] (Zan Zch):=by walk_at"fs"
theorem Zf7 (B:Blt mg) (HHand:CHand K C) (T_away_reason:TopFn K mg "away_reason" Zch ["hand","stand","words","edge","most"]) (Crows_ahead:Callee P w K mg base "rows_ahead" 1 ["stand","edge"] ZbY):Callee P w K mg base "away_reason" 2 ["hand","stand","words","edge","most"] (Zja C):=by
 refine T_away_reason.ok5 sc_away_reason fun f cdv A outer s H v1 v2 v3 v4 v5 Q E hr hh=>?_
 have nd:=sc_away_reason.nd
 obtain ⟨p,dx,pp,pf,pn,pl,fz,Pg,h,ve,st,ws,qw,most,rfl,a,sa,rfl,hqw,ok,ev,rfl,k⟩:=hh
 have sa0:=sa
 obtain ⟨t,l,td,ys,xs,rfl,ht,hl,hd,rp,rx⟩:=Zdi sa
 refine' ZaB [some (.ref p),some (.ref t),some (.ref qw),some v4,some (.int most),none] rfl ?hb ?hg
 case hb=>exact (Zaf (Zbd (i:=5) nd rfl (Or.inl rfl) (Zai (k_ix (K:=K) rfl) (pv 1) Zaa (fun _ _=>rfl))) (Zaf (ZaZ (Zar ZaX (Zai (k_ix (K:=K) rfl) (pv 5) Zaa (fun _ _=>rfl)) Zat (Zau _)) (Zal (Zay Zat)) ZaE) (Zaf (ZaZ (PW.pt (Zbk (Zar ZaX (Zai (k_ix (K:=K) rfl) (pv 5) Zaa (fun _ _=>rfl)) Zat (Zau _)) (Zba (Zar ZkK (Zai (k_ix (K:=K) rfl) (pv 2) (Zai (k_ix (K:=K) rfl) (pv 5) Zaa (fun _ _=>rfl)) (fun _ _=>rfl)) (Zai (k_ix (K:=K) rfl) (pv 5) Zaa (fun _ _=>rfl)) (Zau _))))) (Zal (Zay Zat)) ZaE) (Zaf (ZaZ (PW.pt (Zbk (Zar ZaX (Zai (k_ix (K:=K) rfl) (pv 5) Zaa (fun _ _=>rfl)) Zat (Zau _)) (Zba (Zar ZaX (Zbb (ZdU (K:=K) rfl) (by rfl) B.b_len Zcu (Zbc (Zbj (K:=K) rfl (pv 0) rfl) Zad)) Zaa (Zau _))))) (Zal (Zay Zat)) ZaE) (Zaf (ZaZ (Zar Zmm (ZaN Zbx (Zbj (K:=K) rfl (pv 0) rfl) (ZaS Crows_ahead hr.m (by rfl) (Zac (pv 1) (Zac (pv 3) Zad)))) (pv 4) (Zau _)) (Zal (Zay Zat)) ZaE) (Zal (Zay Zcr)))))))
 have tail:∀ e,Za1 Pg st ws=some e->Rep H e.d v4->whyA most h st ws (Za1 Pg st ws)=(if most < h.gone+ZbK st.deed e then some (Str.ofString "short") else none)->(tSeq (tIfS (ZaW (tOp (rI0 fun i j=>.bl (decide (j < i))) (tOp (rI0 fun i j=>.int (i+j)) (tFld K (tVar 0) "gone") (ZaQ ZbY [] E0 (Zae (tVar 1) (Zae (tVar 3) tNil)))) (tVar 4))) (tRet (tC (.str "short"))) ZbH) (tRet (tC .non))) { nx:=fun _ H'=>Q .non H',rt:=Q } [some (.ref p),some (.ref t),some (.ref qw),some v4,some (.int most),some (.ref td)] H:=by
  intro e ee re hw
  rw[hw] at k
  walk_at"rdx"
  refine ZaU a.obj HHand.cl HHand.n_gone ZdV ?_
  walk_at"rdx"
  refine use2 ⟨st,e,sa0,re,?_⟩
  walk_at"rdx"
  refine Zbr (fun hh=>?_) (fun hh=>?_)
  ·rw[if_pos hh] at k
   walk_at"rdx"
   exact k
  ·rw[if_neg hh] at k
   walk_at"rdx"
   exact k
 walk_at"rdx"
 refine Zaq (v:=.ref td) ht rfl ?_
 walk_at"rdx"
 refine Zaq (v:=.str st.deed.word) hd (Zaw (n:=0) rfl rfl) ?_
 walk_at"rdx"
 cases hdd:st.deed with
 | leave =>
  refine ZaJ rfl ?_
  walk_at"rdx"
  have e:whyA most h st ws (Za1 Pg st ws)=some (Str.ofString "leave"):=by unfold whyA;rw[hdd]
  rw[e] at k
  exact k
 | hold wn n e =>
  rw[hdd] at hd rx
  have ee:Za1 Pg st ws=some e:=by unfold Za1;rw[hdd];rfl
  obtain ⟨u1,zr,rfl,r1,rz1⟩:=Zaj rx
  obtain ⟨u2,zr,rfl,r2,rz2⟩:=Zaj rz1
  obtain rfl:=ZaK r1
  obtain rfl:=ZaK r2
  obtain ⟨w0,w1⟩:=ok.hold wn n e hdd
  refine Zao (by show ¬ (Str.ofString "hold")=_;decide) ?_
  walk_at"rdx"
  refine Zaq (v:=.str "hold") hd (Zaw (n:=0) rfl rfl) ?_
  walk_at"rdx"
  refine ZaJ rfl ?_
  walk_at"rdx"
  refine Zaq (v:=.int wn) hd (Zaw (n:=1) rfl rfl) ?_
  refine Zak hqw (v:=.int (ws.getD wn.toNat 0)) (Zaw (n:=wn.toNat) (by lia) (by rw[getElem?_map,getElem?_eq_getElem w1,getD_eq_getElem?_getD,getElem?_eq_getElem w1];rfl)) ?_
  walk_at"rdx"
  refine Zaq (v:=.int n) hd (Zaw (n:=2) rfl rfl) ?_
  walk_at"rdx"
  refine ZeG (fun hne=>?_) (fun heq=>?_)
  ·walk_at"rdx"
   have e:whyA most h st ws (Za1 Pg st ws)=some (Str.ofString "fall"):=by unfold whyA;rw[hdd,ee];simp only;rw[if_neg hne]
   rw[e] at k
   exact k
  ·walk_at"rdx"
   refine Zaq (v:=.str "hold") hd (Zaw (n:=0) rfl rfl) ?_
   walk_at"rdx"
   refine Zao (by decide) ?_
   refine Za5 ?_
   rcases ev with ⟨z,_⟩|⟨e',e1,re⟩
   ·rw[ee] at z;cases z
   rw[ee] at e1
   cases e1
   exact tail e ee re (by unfold whyA;rw[hdd,ee];simp only;rw[if_pos heq])
 | take e =>
  rw[hdd] at hd rx
  have ee:Za1 Pg st ws=some e:=by unfold Za1;rw[hdd];rfl
  refine Zao (by show ¬ (Str.ofString "take")=_;decide) ?_
  walk_at"rdx"
  refine Zaq (v:=.str "take") hd (Zaw (n:=0) rfl rfl) ?_
  walk_at"rdx"
  refine Zao (by decide) ?_
  walk_at"rdx"
  refine Zaq (v:=.str "take") hd (Zaw (n:=0) rfl rfl) ?_
  walk_at"rdx"
  refine ZaJ rfl ?_
  walk_at"rdx"
  refine ZaU a.obj HHand.cl HHand.n_left Zfa ?_
  walk_at"rdx"
  refine ZbD (SqL.of a.ll) ?_
  rw[length_map]
  walk_at"rdx"
  refine Zbr (fun h0=>?_) (fun h0=>?_)
  ·walk_at"rdx"
   have hl0:h.left=[]:=eq_nil_of_length_eq_zero (by lia)
   have e:whyA most h st ws (Za1 Pg st ws)=some (Str.ofString "short"):=by unfold whyA;rw[hdd,ee];simp only;rw[if_pos hl0]
   rw[e] at k
   exact k
  ·refine Za5 ?_
   rcases ev with ⟨z,_⟩|⟨e',e1,re⟩
   ·rw[ee] at z;cases z
   rw[ee] at e1
   cases e1
   exact tail e ee re (by unfold whyA;rw[hdd,ee];simp only;rw[if_neg (fun z=>h0 (by rw[z];rfl))])
 | go e =>
  rw[hdd] at hd rx
  have ee:Za1 Pg st ws=some e:=by unfold Za1;rw[hdd];rfl
  refine Zao (by show ¬ (Str.ofString "go")=_;decide) ?_
  walk_at"rdx"
  refine Zaq (v:=.str "go") hd (Zaw (n:=0) rfl rfl) ?_
  walk_at"rdx"
  refine Zao (by decide) ?_
  walk_at"rdx"
  refine Zaq (v:=.str "go") hd (Zaw (n:=0) rfl rfl) ?_
  walk_at"rdx"
  refine Zao (by decide) ?_
  refine Za5 ?_
  rcases ev with ⟨z,_⟩|⟨e',e1,re⟩
  ·rw[ee] at z;cases z
  rw[ee] at e1
  cases e1
  exact tail e ee re (by unfold whyA;rw[hdd,ee])
 | tell e =>
  rw[hdd] at hd rx
  have ee:Za1 Pg st ws=some e:=by unfold Za1;rw[hdd];rfl
  refine Zao (by show ¬ (Str.ofString "tell")=_;decide) ?_
  walk_at"rdx"
  refine Zaq (v:=.str "tell") hd (Zaw (n:=0) rfl rfl) ?_
  walk_at"rdx"
  refine Zao (by decide) ?_
  walk_at"rdx"
  refine Zaq (v:=.str "tell") hd (Zaw (n:=0) rfl rfl) ?_
  walk_at"rdx"
  refine Zao (by decide) ?_
  refine Za5 ?_
  rcases ev with ⟨z,_⟩|⟨e',e1,re⟩
  ·rw[ee] at z;cases z
  rw[ee] at e1
  cases e1
  exact tail e ee re (by unfold whyA;rw[hdd,ee])
 | test y n =>
  rw[hdd] at hd rx
  obtain ⟨e,ee⟩:∃ e,Za1 Pg st ws=some e:=by unfold Za1;rw[hdd];exact ⟨_,rfl⟩
  refine Zao (by show ¬ (Str.ofString "test")=_;decide) ?_
  walk_at"rdx"
  refine Zaq (v:=.str "test") hd (Zaw (n:=0) rfl rfl) ?_
  walk_at"rdx"
  refine Zao (by decide) ?_
  walk_at"rdx"
  refine Zaq (v:=.str "test") hd (Zaw (n:=0) rfl rfl) ?_
  walk_at"rdx"
  refine Zao (by decide) ?_
  refine Za5 ?_
  rcases ev with ⟨z,_⟩|⟨e',e1,re⟩
  ·rw[ee] at z;cases z
  rw[ee] at e1
  cases e1
  exact tail e ee re (by unfold whyA;rw[hdd,ee])
end
end My
end
section
namespace My
open PySem L2
section
variable {P:Program} {w:World} {K:W.Frag} {mg:Str->Option Value} {base:Heap}
variable {C CC:Addr}
theorem Zlz {H:Hp} {R:It->Hp->Prop} {a:Addr} {xs:List V} (h:SqT K H a xs) (q:R (Itt K a) H):itK K R (.ref a) H:=⟨a,rfl,⟨xs,h⟩,q⟩
inductive Pr_words_in (C:Addr) (x:V) (H:Hp) (Q:VK):Prop
 | mk (p dx pp pf pn pl fz z P h ve) (_:x=.ref p) (_:HA C p dx pp pf pn pl (fz++[z]) H P h ve) (_:∀ q H',Same H H'->H q=none->H' q=some (.lst (z.2.2.2.map V.int))->Q (.ref q) H'):Pr_words_in C x H Q
def ZeU (C:Addr):Sp:=sp1 (Pr_words_in C)
theorem sc_words_in:FnScope ["hand"] ["hand"] (Zan Zdv):=by walk_at"fs"
theorem ZiM (B:Blt mg) (HHand:CHand K C) (T_words_in:TopFn K mg "words_in" Zdv ["hand"]):Callee P w K mg base "words_in" 1 ["hand"] (ZeU C):=by
 refine T_words_in.ok1 sc_words_in fun f cdv A outer s H v1 Q E hr hh=>?_
 have nd:=sc_words_in.nd
 obtain ⟨p,dx,pp,pf,pn,pl,fz,z,Pg,h,ve,rfl,a,k⟩:=hh
 refine' ZaB [some (.ref p)] rfl ?hb ?hg
 case hb=>exact (Zal (Zay (Zbf (ZdT (K:=K) rfl) (by rfl) B.b_list ZdZ (Zav (Zai (k_ix (K:=K) rfl) (Zai (k_ix (K:=K) rfl) (Zbj (K:=K) rfl (pv 0) rfl) (Zcp ZbB Zaa) (fun _ _=>rfl)) Zaa (fun _ _=>rfl)) Zad))))
 have z1:=a.z1 (z:=z) (by simp)
 have z2:=a.z2 (z:=z) (by simp)
 walk_at"rdx"
 refine ZaU a.obj HHand.cl HHand.n_frames Zbn ?_
 walk_at"rdx"
 refine Zak a.fl Zdb ?_
 walk_at"rdx"
 refine Zak (v:=.ref z.1.2) z1 rfl ?_
 walk_at"rdx"
 refine Zc7 (.inl (SqL.of z2)) fun q hq=>?_
 exact k q _ (Same.new hq) hq Zag
def Zli (own:List Addr) (H:Hp) (st:Std) (y:V):Prop:=∀ t l vd,y=.ref t->H t=some (.tup [.int st.many,.ref l,vd])->l∉own
inductive Pr_go_edge (C:Addr) (x y z u:V) (H:Hp) (Q:VK):Prop
 | mk (p dx pp pf pn pl fz P h ve st ws qw e) (_:x=.ref p) (_:HA C p dx pp pf pn pl fz H P h ve) (_:StdAt H st y) (_:Zli (ownA p pf pn pl fz) H st y) (_:z=.ref qw) (_:H qw=some (.lst ((ws:List Int).map V.int))) (_:qw∉ownA p pf pn pl fz) (_:SOk P st ws) (_:Rep H e.d u) (_:EOk e (wsA h st ws).length) (_:WsO (wsA h st ws)) (_:∀ e,st.deed=.take e->h.left≠[]) (_:h.news.length<=200000) (_:∀ q H',HA C p dx pp pf pn pl fz H' P (hA P h st ws e) ve->OSame (ownA p pf pn pl fz) H H'->H q=none->H' q=some (.lst ((e.moves.map (wF (wsA h st ws))).map V.int))->Q (.ref q) H'):Pr_go_edge C x y z u H Q
def Zft (C:Addr):Sp:=sp4 (Pr_go_edge C)
theorem sc_go_edge:FnScope ["hand","stand","words","edge"] ["hand","stand","words","edge"] (Zan Zee):=by walk_at"fs"
theorem Zkf (B:Blt mg) (HHand:CHand K C) (T_go_edge:TopFn K mg "go_edge" Zee ["hand","stand","words","edge"]) (Cworth:Callee P w K mg base "worth" 1 ["form","words"] (Zbe K)) (Cbox_number:Callee P w K mg base "box_number" 3 ["program","stand","words"] ZcX) (Crows_ahead:Callee P w K mg base "rows_ahead" 1 ["stand","edge"] ZbY):Callee P w K mg base "go_edge" 4 ["hand","stand","words","edge"] (Zft C):=by
 refine T_go_edge.ok4 sc_go_edge fun f cdv A outer s H v1 v2 v3 v4 Q E hr hh=>?_
 have nd:=sc_go_edge.nd
 obtain ⟨p,dx,pp,pf,pn,pl,fz,Pg,h,ve,st,ws,qw,e,rfl,a,sa,sf,rfl,hqw,nqw,ok,re,eo,wo,tk,few,k⟩:=hh
 have sa0:=sa
 obtain ⟨t,l,td,ys,xs,rfl,ht,hl,hd,rp,rx⟩:=Zdi sa
 refine' ZaB [some (.ref p),some (.ref t),some (.ref qw),some v4] rfl ?hb ?hg
 case hb=>exact (Zaf (ZaZ (Zar ZaX (Zai (k_ix (K:=K) rfl) (Zai (k_ix (K:=K) rfl) (pv 1) Zaa (fun _ _=>rfl)) Zaa (fun _ _=>rfl)) Zat (Zau _)) (Zal (Zbm (k_bm (K:=K) rfl PySem.F.plainAttrs_list PySem.F.slot_list_append PySem.F.type_list_append ZbN (Zbj (K:=K) rfl (pv 0) rfl) (Za4 (ZaS Cbox_number hr.m (by rfl) (Zbc (Zbj (K:=K) rfl (pv 0) rfl) (Zac (pv 1) (Zac (pv 2) Zad)))) Zad)))) ZaE) (Zaf (ZaZ (Zar ZaX (Zai (k_ix (K:=K) rfl) (Zai (k_ix (K:=K) rfl) (pv 1) Zaa (fun _ _=>rfl)) Zaa (fun _ _=>rfl)) Zat (Zau _)) (Zal (ZdQ (i:=2) nd rfl (Or.inr rfl) (ZaN Zek (pv 2) (ZaH (Za4 (k_bm (K:=K) rfl PySem.F.plainAttrs_list PySem.F.slot_list_pop PySem.F.type_list_pop ZdF (Zbj (K:=K) rfl (pv 0) rfl) (Zab Zaa Zad)) Zad))))) ZaE) (Zaf (ZcU (K:=K) rfl (pv 0) (ZaN Zbx (Zbj (K:=K) rfl (pv 0) rfl) (ZaS Crows_ahead hr.m (by rfl) (Zac (pv 1) (Zac (pv 3) Zad)))) rfl) (Zal (Zay (Zb1 (LN:=["move"]) (FN:=["words"]) (fr:=[2]) rfl (Zd0 (by rfl)) (ZcI (K:=K) rfl (Zai (k_ix (K:=K) rfl) (pv 3) Zaa (fun _ _=>rfl))) (fun cl C fp pins s H=>(ZaA (i:=0) (show ((["move"]:List Str)++(["words"]:List Str)).Nodup by decide +kernel) rfl (Or.inl rfl))) (fun cl C fp pins s H=>ZbR) (fun cl C fp pins s H=>(ZaS Cworth hr.m (by rfl) (Zac (pv 0) (Zac (pv 1) Zad))))))))))
 have tail:∀ (H1:Hp) (h1:HS) (q1:Addr),HA C p dx pp pf pn pl fz H1 Pg h1 ve->OSame (ownA p pf pn pl fz) H H1->h1.gone=h.gone->hA Pg h st ws e={ h1 with gone:=h.gone+ZbK st.deed e }->H1 q1=some (.lst ((wsA h st ws).map V.int))->q1∉ownA p pf pn pl fz->(tSeq (sFld K (tVar 0) (tOp (rI0 fun i j=>.int (i+j)) (tFld K (tVar 0) "gone") (ZaQ ZbY [] E0 (Zae (tVar 1) (Zae (tVar 3) tNil)))) "gone") (tRet (ZeS ["move"] [2] (iTup K (tOp (rIxA K) (tVar 3) (tC (.int 1)))) (ZaI 0) Zfh (ZaQ (Zbe K) [] E0 (Zae (tVar 0) (Zae (tVar 1) tNil)))))) { nx:=fun _ H'=>Q .non H',rt:=Q } [some (.ref p),some (.ref t),some (.ref q1),some v4] H1:=by
  intro H1 h1 q1 a1 o1 hg hA1 hq1 nq1
  have ts1:=o1.ts a.notup
  have sa1:StdAt H1 st (.ref t):=sa0.by o1 a.notup sf
  have re1:=re.mono ts1
  walk_at"rdx"
  refine ZaU a1.obj HHand.cl HHand.n_gone ZdV ?_
  walk_at"rdx"
  refine use2 ⟨st,e,sa1,re1,?_⟩
  walk_at"rdx"
  rw[hg]
  refine Zb3 a1.obj HHand.cl HHand.n_gone (Nat.lt_of_sub_eq_succ rfl) ?_
  rw[ZjN]
  obtain ⟨a2,o2⟩:=a1.setGone (h.gone+ZbK st.deed e)
  have hq2:upd H1 p (.ins C dx (ZaY (.ref pp) (.ref pf) (.ref pn) (.int (h.gone+ZbK st.deed e)) (.ref pl) ve)) q1=some (.lst ((wsA h st ws).map V.int)):=o2 _ _ nq1 hq1
  have re2:=re1.mono (o2.ts a1.notup)
  have o12:=o1.trans o2 (fun x hx=>.inl hx)
  generalize upd H1 p (.ins C dx (ZaY (.ref pp) (.ref pf) (.ref pn) (.int (h.gone+ZbK st.deed e)) (.ref pl) ve))=H2 at a2 o2 hq2 re2 o12
  rw[<-hA1] at a2
  obtain ⟨te,qm,ms,rfl,hte,hqm,rm⟩:=Zf1 re2
  have hml:=rm.length
  rw[length_map] at hml
  have hmf:=eo.few
  walk_at"rdx"
  refine Zaq (v:=.ref qm) hte rfl ?_
  walk_at"rdx"
  refine Zlz (SqT.of hqm) ?_
  refine ZeI (xs:=ms) (Za2 (by lia)) (fun i zs σ Hx=>An3 (∃ x1,σ=[x1,some (.ref q1)]) (Same H2 Hx) (zs=((e.moves.take i).map (wF (wsA h st ws))).map V.int)) ⟨⟨none,rfl⟩,Same.refl _,rfl⟩ (fun i zs σ Hx _ z_=>by obtain ⟨_,s1,_⟩:=z_;exact SqT.of (s1 _ _ hqm)) ?_ ?_
  ·rintro i x zs σ Hx hx hle hlt ⟨⟨x1,rfl⟩,s1,rfl⟩
   obtain ⟨d,ed,rd⟩:=rm.get' hx
   rw[getElem?_map] at ed
   obtain ⟨fm,ef,rfl⟩:=Option.map_eq_some_iff.mp ed
   have fo:=eo.fms fm (mem_of_getElem? ef)
   walk_at"rdx"
   refine use2 ⟨fm.1,fm.2,q1,wsA h st ws,rd.mono s1.ts,rfl,SqL.of (s1 _ _ hq2),Nat.le_trans fo.l (by decide),fun p hp=>⟨(fo.p p hp).2.1,(fo.p p hp).2.2,Zce (fo.p p hp).1⟩,fun z hz=>Zce (wo.2 z hz),fun H3 s3=>?_⟩
   refine ⟨hlt,by simp;lia,⟨_,rfl⟩,s1.trans s3,?_⟩
   rw[take_add_one,ef]
   simp[wF]
  ·rintro zs σ Hx hzl ⟨⟨x1,rfl⟩,s1,rfl⟩ q hq
   rw[<-hml,take_length]
   have s2:=Same.new (o:=.lst ((e.moves.map (wF (wsA h st ws))).map V.int)) hq
   have s12:=s1.trans s2
   refine k q _ (a2.mono s12) (fun b o nb eb=>s12 _ _ (o12 b o nb eb)) ?_ Zag
   cases hz:H q with
   | none=>rfl
   | some o =>
    by_cases hm:q∈ownA p pf pn pl fz
    ·obtain ⟨o',ho'⟩:∃ o',H2 q=some o':=by
      have:=Zb2 (C:=C) (p:=p) (dx:=dx) (pp:=pp) (pf:=pf) (pn:=pn) (pl:=pl) (fz:=fz) (h:=hA Pg h st ws e) (ve:=ve)
      rw[<-this] at hm
      obtain ⟨ob,hob,rfl⟩:=mem_map.mp hm
      exact ⟨_,a2.all _ hob⟩
     rw[s1 _ _ ho'] at hq
     cases hq
    ·rw[s1 _ _ (o12 q o hm hz)] at hq
     cases hq
 walk_at"rdx"
 refine Zaq (v:=.ref td) ht rfl ?_
 walk_at"rdx"
 refine Zaq (v:=.str st.deed.word) hd (Zaw (n:=0) rfl rfl) ?_
 walk_at"rdx"
 by_cases htell:∃ e',st.deed=.tell e'
 ·obtain ⟨e',hdd⟩:=htell
  have hwsA:wsA h st ws=ws:=by unfold wsA;rw[hdd]
  refine ZaJ (by rw[hdd];rfl) ?_
  walk_at"rdx"
  refine ZaU a.obj HHand.cl HHand.n_news ZhF ⟨.inl ⟨rfl,_,SqL.of a.nl⟩,?_⟩
  walk_at"rdx"
  refine ZaU a.obj HHand.cl HHand.n_program ZcV ?_
  walk_at"rdx"
  refine use3 ⟨_,Pg,pp,st,ws,qw,rfl,a.pg,sa0,rfl,hqw,ok,by rw[hdd];rfl,fun H1 s1=>?_⟩
  have a1:=a.mono s1
  walk_at"rdx"
  refine ZbM a1.nl (Nat.lt_of_le_of_lt (show (h.news.map V.int).length<=200000 by rw[length_map];exact few) (by rw[sizeLine_eq];decide)) ?_
  have e2:h.news.map V.int++[V.int (boxN Pg st ws)]=(h.news++[boxN Pg st ws]).map V.int:=by simp
  rw[e2]
  obtain ⟨a2,o2⟩:=a1.setNews (h.news++[boxN Pg st ws])
  have o12:OSame (ownA p pf pn pl fz) H (upd H1 pn (.lst ((h.news++[boxN Pg st ws]).map V.int))):=fun b o nb eb=>o2 _ _ nb (s1 _ _ eb)
  have ts2:=o12.ts a.notup
  walk_at"rdx"
  refine Zaq (v:=.ref td) (ts2 _ _ ht) rfl ?_
  walk_at"rdx"
  refine Zaq (v:=.str st.deed.word) (ts2 _ _ hd) (Zaw (n:=0) rfl rfl) ?_
  walk_at"rdx"
  refine Zao (by rw[hdd];show ¬ (Str.ofString "tell")=_;decide) ?_
  refine Za5 ?_
  refine tail _ _ qw a2 o12 rfl ?_ (by rw[hwsA];exact o12 _ _ nqw hqw) nqw
  unfold hA
  rw[hdd]
 ·refine Zao (fun z=>?_) ?_
  ·cases hdd:st.deed with
   | tell e'=>exact htell ⟨e',hdd⟩
   | go _=>rw[hdd] at z;exact absurd z (by show ¬ (Str.ofString "go")=_;decide)
   | test _ _=>rw[hdd] at z;exact absurd z (by show ¬ (Str.ofString "test")=_;decide)
   | take _=>rw[hdd] at z;exact absurd z (by show ¬ (Str.ofString "take")=_;decide)
   | hold _ _ _=>rw[hdd] at z;exact absurd z (by show ¬ (Str.ofString "hold")=_;decide)
   | leave=>rw[hdd] at z;exact absurd z (by show ¬ (Str.ofString "leave")=_;decide)
  walk_at"rdx"
  refine Zaq (v:=.ref td) ht rfl ?_
  walk_at"rdx"
  refine Zaq (v:=.str st.deed.word) hd (Zaw (n:=0) rfl rfl) ?_
  walk_at"rdx"
  by_cases htake:∃ e',st.deed=.take e'
  ·obtain ⟨e',hdd⟩:=htake
   obtain ⟨n,rest,hl'⟩:∃ n rest,h.left=n::rest:=by
    cases e2:h.left with
    | nil=>exact absurd e2 (tk e' hdd)
    | cons n rest=>exact ⟨n,rest,rfl⟩
   have hwsA:wsA h st ws=ws++[n]:=by unfold wsA;rw[hdd,hl'];rfl
   refine ZaJ (by rw[hdd];rfl) ?_
   walk_at"rdx"
   refine ZaU a.obj HHand.cl HHand.n_left Zfa ⟨.inl ⟨rfl,_,SqL.of a.ll⟩,?_⟩
   walk_at"rdx"
   refine ⟨pl,_,0,0,.int n,rfl,rfl,a.ll,by decide,by decide,?_,by rw[hl'];rfl,?_⟩
   ·rw[hl'];simp[seqIndex?]
   have e2:(h.left.map V.int).eraseIdx 0=rest.map V.int:=by rw[hl'];rfl
   rw[e2]
   obtain ⟨a1,o1⟩:=a.setLeft rest
   have hqw1:=o1 _ _ nqw hqw
   generalize upd H pl (.lst (rest.map V.int))=H1 at a1 o1 hqw1
   walk_at"rdx"
   walk_at"mk";intro p1 hp1
   have s2:=Same.new (o:=.lst [V.int n]) hp1
   have e3:upd H1 p1 (.lst [V.int n]) p1=some (.lst [V.int n]):=Zag
   generalize upd H1 p1 (.lst [V.int n])=H2 at s2 e3
   have hwl:=wo.1
   rw[hwsA,length_append] at hwl
   refine ZeE (s2 _ _ hqw1) e3 (Za2 (by simp at hwl ⊢;lia)) fun p2 hp2=>?_
   have e4:ws.map V.int++[V.int n]=(ws++[n]).map V.int:=by simp
   rw[e4]
   have s3:=Same.new (o:=.lst ((ws++[n]).map V.int)) hp2
   have e5:upd H2 p2 (.lst ((ws++[n]).map V.int)) p2=some (.lst ((ws++[n]).map V.int)):=Zag
   generalize upd H2 p2 (.lst ((ws++[n]).map V.int))=H3 at s3 e5
   have s23:=s2.trans s3
   have a3:=a1.mono s23
   refine tail H3 { h with left:=rest } p2 a3 (fun b o nb eb=>s23 _ _ (o1 b o nb eb)) rfl ?_ (by rw[hwsA];exact e5) fun hm=>?_
   ·unfold hA
    rw[hdd,hl']
    rfl
   ·have:=Zb2 (C:=C) (p:=p) (dx:=dx) (pp:=pp) (pf:=pf) (pn:=pn) (pl:=pl) (fz:=fz) (h:={ h with left:=rest }) (ve:=ve)
    rw[<-this] at hm
    obtain ⟨ob,hob,e6⟩:=mem_map.mp hm
    have:=a1.all _ hob
    rw[e6] at this
    rw[s2 _ _ this] at hp2
    cases hp2
  ·refine Zao (fun z=>?_) ?_
   ·cases hdd:st.deed with
    | take e'=>exact htake ⟨e',hdd⟩
    | go _=>rw[hdd] at z;exact absurd z (by show ¬ (Str.ofString "go")=_;decide)
    | test _ _=>rw[hdd] at z;exact absurd z (by show ¬ (Str.ofString "test")=_;decide)
    | tell _=>rw[hdd] at z;exact absurd z (by show ¬ (Str.ofString "tell")=_;decide)
    | hold _ _ _=>rw[hdd] at z;exact absurd z (by show ¬ (Str.ofString "hold")=_;decide)
    | leave=>rw[hdd] at z;exact absurd z (by show ¬ (Str.ofString "leave")=_;decide)
   refine Za5 ?_
   have hwsA:wsA h st ws=ws:=by
    unfold wsA
    cases hdd:st.deed with
    | take e'=>exact absurd ⟨e',hdd⟩ htake
    | _=>rfl
   refine tail H h qw a (OSame.refl _ _) rfl ?_ (by rw[hwsA];exact hqw) nqw
   unfold hA
   cases hdd:st.deed with
   | take e'=>exact absurd ⟨e',hdd⟩ htake
   | tell e'=>exact absurd ⟨e',hdd⟩ htell
   | _=>rfl
end
end My
end
section
namespace My
open PySem L2
section
variable {P:Program} {w:World} {K:W.Frag} {mg:Str->Option Value} {base:Heap}
variable {C CC:Addr}
def fObjs (a:Addr) (fz:List FZ):List (Addr×HO):=(a,HO.lst (fz.map fun z=>V.ref z.1.1))::fz.flatMap ZbS
theorem Zgu {H:Hp} {sp:List SF} {vs:List V} {i:Nat} {x:V} (r:Reps H (sp.map sfDD) vs) (hx:vs[i]?=some x):∃ s t u xs,sp[i]?=some s/\x=.ref t/\H t=some (.tup [.int s.1,.int s.2.1,.ref u])/\H u=some (.tup xs)/\Reps H (s.2.2.map fmD) xs:=by
 obtain ⟨d,ed,rd⟩:=r.get' hx
 rw[getElem?_map] at ed
 obtain ⟨s,es,rfl⟩:=Option.map_eq_some_iff.mp ed
 obtain ⟨t,zs,rfl,ht,rz⟩:=ZaG (show Rep H (.tup [.int s.1,.int s.2.1,.tup (s.2.2.map fmD)]) x from rd)
 obtain ⟨u1,r1,rfl,e1,rz1⟩:=Zaj rz
 obtain ⟨u2,r2,rfl,e2,rz2⟩:=Zaj rz1
 obtain ⟨u3,r3,rfl,e3,rz3⟩:=Zaj rz2
 obtain rfl:=ZaD rz3
 obtain rfl:=ZaK e1
 obtain rfl:=ZaK e2
 obtain ⟨u,xs,rfl,hu,rx⟩:=ZaG e3
 exact ⟨s,t,u,xs,es,rfl,ht,hu,rx⟩
inductive Pr_frames_ofR (K:W.Frag) (x y:V) (H:Hp) (Q:VK):Prop
 | mk (q qw:Addr) (sp:List SF) (vs:List V) (ws:List Int) (_:x=.ref q) (_:y=.ref qw) (_:H q=some (.lst vs)) (_:Reps H (sp.map sfDD) vs) (_:H qw=some (.lst (ws.map V.int))) (_:sp.length<=100) (_:WsO ws) (_:∀ s∈sp,s.2.2.length<=100/\∀ f∈s.2.2,FmO ws.length f) (_:∀ a fz H',fz.map (·.2)=sp.map (wSF ws)->WC [] H H' (fObjs a fz) []->Q (.ref a) H'):Pr_frames_ofR K x y H Q
def Zd8 (K:W.Frag):Sp:=sp2 (Pr_frames_ofR K)
theorem sc_frames_of:FnScope ["paper","words"] ["paper","words"] (Zan Zc0):=by walk_at"fs"
theorem ZhN (B:Blt mg) (T_frames_of:TopFn K mg "frames_of" Zc0 ["paper","words"]) (Cworth:Callee P w K mg base "worth" 1 ["form","words"] (Zbe K)):Callee P w K mg base "frames_of" 2 ["paper","words"] (Zd8 K):=by
 refine T_frames_of.ok2 sc_frames_of fun f cdv A outer s H v1 v2 Q E hr hh=>?_
 have nd:=sc_frames_of.nd
 obtain ⟨q,qw,sp,vs,ws,rfl,rfl,hq,rsp,hqw,hsl,hws,hok,k⟩:=hh
 refine' ZaB [some (.ref q),some (.ref qw)] rfl ?hb ?hg
 case hb=>exact (Zal (Zay (Zb1 (LN:=["f","at","forms"]) (FN:=["words"]) (fr:=[1]) rfl (Zd0 (by rfl)) (Zdq (K:=K) rfl (pv 0)) (fun cl C fp pins s H=>(ZbQ (K:=K) (n:=3) rfl rfl (ZaF (ZaA (i:=0) (show ((["f","at","forms"]:List Str)++(["words"]:List Str)).Nodup by decide +kernel) rfl (Or.inl rfl)) (ZaF (ZaA (i:=1) (show ((["f","at","forms"]:List Str)++(["words"]:List Str)).Nodup by decide +kernel) rfl (Or.inl rfl)) (ZaF (ZaA (i:=2) (show ((["f","at","forms"]:List Str)++(["words"]:List Str)).Nodup by decide +kernel) rfl (Or.inl rfl)) Zb5))))) (fun cl C fp pins s H=>ZbR) (fun cl C fp pins s H=>(ZaH (Zac (pv 0) (Zac (pv 1) (ZcH (Zb1 (LN:=["form"]) (FN:=["words"]) (fr:=[3]) rfl (Zd0 (by rfl)) (ZcI (K:=K) rfl (pv 2)) (fun cl C fp pins s H=>(ZaA (i:=0) (show ((["form"]:List Str)++(["words"]:List Str)).Nodup by decide +kernel) rfl (Or.inl rfl))) (fun cl C fp pins s H=>ZbR) (fun cl C fp pins s H=>(ZaS Cworth hr.m (by rfl) (Zac (pv 0) (Zac (pv 1) Zad))))) Zad))))))))
 have hvl:=rsp.length
 rw[length_map] at hvl
 walk_at"rdx"
 refine ZgI (SqL.of hq) ?_
 refine ZhL (xs:=vs) (Zcv (by lia)) (fun i ys σ Hy=>(∃ x1 x2 x3,σ=[x1,x2,x3,some (.ref qw)])/\∃ fz:List FZ,An3 (ys=fz.map (fun z=>V.ref z.1.1)) (fz.map (·.2)=(sp.take i).map (wSF ws)) (WC [] H Hy (fz.flatMap ZbS) [])) ⟨⟨none,none,none,rfl⟩,[],rfl,rfl,WC.start (fun _ h=>by cases h)⟩ (fun i ys σ Hy _ z_=>by obtain ⟨_,_,_,_,w⟩:=z_;exact SqL.of (w.os _ _ (by simp) hq)) ?_ ?_
 ·rintro i x ys σ Hy hx hle hlt ⟨⟨x1,x2,x3,rfl⟩,fz,rfl,hfz,w⟩
  obtain ⟨sf,t,u,xs,es,rfl,ht,hu,rx⟩:=Zgu (rsp.mono w.ts) hx
  have ok:=hok sf (mem_of_getElem? es)
  have hxl:=rx.length
  rw[length_map] at hxl
  have hok1:=ok.1
  refine Zb4 ht rfl ?_
  walk_at"rdx"
  refine ⟨u,rfl,⟨_,SqT.of hu⟩,?_⟩
  refine ZeI (xs:=xs) (Zcv (by lia)) (fun j zs σ Hz=>An5 (∃ x1,σ=[x1,some (.ref qw)]) (zs=((sf.2.2.take j).map (wF ws)).map V.int) (WC [] H Hz (fz.flatMap ZbS) []) (Hz u=some (.tup xs)) (Reps Hz (sf.2.2.map fmD) xs)) ⟨⟨none,rfl⟩,rfl,w,hu,rx⟩ (fun j zs σ Hz _ z_=>by obtain ⟨_,_,_,h,_⟩:=z_;exact SqT.of h) ?_ ?_
  ·rintro j x zs σ Hz hx' hle' hlt' ⟨⟨x1,rfl⟩,rfl,w,hu,rx⟩
   obtain ⟨d,ed,rd⟩:=rx.get' hx'
   rw[getElem?_map] at ed
   obtain ⟨fm,ef,rfl⟩:=Option.map_eq_some_iff.mp ed
   have okf:=ok.2 fm (mem_of_getElem? ef)
   walk_at"rdx"
   refine use2 ⟨fm.1,fm.2,qw,ws,rd,rfl,SqL.of (w.os _ _ (by simp) hqw),Nat.le_trans okf.l (by decide),fun p hp=>⟨(okf.p p hp).2.1,(okf.p p hp).2.2,Zce (okf.p p hp).1⟩,fun z hz=>Zce (hws.2 z hz),fun H3 s3=>?_⟩
   refine ⟨hlt',by simp;lia,⟨_,rfl⟩,?_,w.same s3,s3 _ _ hu,rx.mono s3.ts⟩
   rw[take_add_one,ef]
   simp[wF]
  ·rintro zs σ Hz hzl ⟨⟨x1,rfl⟩,rfl,w,hu,rx⟩ pb hpb
   rw[<-hxl,take_length]
   have w:=w.newL (xs:=(sf.2.2.map (wF ws)).map V.int) hpb
   generalize upd Hz pb (HO.lst ((sf.2.2.map (wF ws)).map V.int))=H4 at w
   walk_at"rdx"
   refine ⟨Zcc rfl,fun pf hpf=>?_⟩
   have w:=w.newL (xs:=[.int sf.1,.int sf.2.1,.ref pb]) hpf
   refine ⟨hlt,by simpa using hle,⟨_,_,_,rfl⟩,fz++[((pf,pb),wSF ws sf)],by simp,?_,?_⟩
   ·rw[take_add_one,es,map_append,hfz]
    simp
   ·refine w.perm ?_
    rw[flatMap_append]
    exact (perm_append_comm (l₁:=[(pf,HO.lst [.int sf.1,.int sf.2.1,.ref pb]),(pb,HO.lst ((sf.2.2.map (wF ws)).map V.int))]) (l₂:=fz.flatMap ZbS))
 ·rintro ys σ Hy hyl ⟨⟨x1,x2,x3,rfl⟩,fz,rfl,hfz,w⟩ a ha
  have w:=w.newL (xs:=fz.map (fun z=>V.ref z.1.1)) ha
  rw[take_of_length_le (by lia)] at hfz
  exact k a fz _ hfz w
def ZaT (gz:List FZ):List Addr:=gz.flatMap fun z=>[z.1.1,z.1.2]
theorem Zen (gz:List FZ):(gz.flatMap ZbS).map (·.1)=ZaT gz:=by
 unfold ZaT
 rw[map_flatMap]
 rfl
theorem Zda (p pf pn pl:Addr) (fz:List FZ):ownA p pf pn pl fz=[p,pf,pn,pl]++ZaT fz:=rfl
theorem HA.setFrames {p dx pp pf pn pl:Addr} {fz gz:List FZ} {z:FZ} {H:Hp} {Pg:List Df} {h:HS} {ve:V} (a:HA C p dx pp pf pn pl (fz++[z]) H Pg h ve) {pa:Addr} (h1:H pa=some (.lst ((fz++gz).map fun z=>V.ref z.1.1))) (h2:AllAt H (gz.flatMap ZbS)) (nd:(pa::ZaT gz).Nodup) (nw:∀ x∈pa::ZaT gz,x∉ownA p pf pn pl (fz++[z])) (pg:PgAt (pa::ZaT gz) H Pg pp) :
  HA C p dx pp pa pn pl (fz++gz) (upd H p (.ins C dx (ZaY (.ref pp) (.ref pa) (.ref pn) (.int h.gone) (.ref pl) ve))) Pg { h with frames:=fz.map (·.2)++gz.map (·.2) } ve:=by
 have hnd:=a.nd
 rw[Zda] at hnd
 have hp:p∈ownA p pf pn pl (fz++[z]):=by simp[ownA]
 have nep:∀ x∈ownA p pf pn pl (fz++[z]),x∈[pn,pl]++ZaT (fz++[z])->x≠p:=fun x _ m e=>by
  subst e
  simp only[cons_append,nil_append,nodup_cons] at hnd
  rcases mem_append.mp m with m|m
  ·exact hnd.1 (mem_cons_of_mem _ (by simp only[mem_cons,not_mem_nil,or_false] at m ⊢;rcases m with m|m;exact .inl m;exact .inr (.inl m)))
  ·exact hnd.1 (mem_cons_of_mem _ (mem_cons_of_mem _ (mem_cons_of_mem _ m)))
 have nfz:∀ x∈ZaT fz,x∈ZaT (fz++[z]):=fun x hx=>by
  unfold ZaT at hx ⊢
  rw[flatMap_append]
  exact mem_append_left _ hx
 have own':ownA p pa pn pl (fz++gz)=[p,pa,pn,pl]++(ZaT fz++ZaT gz):=by
  rw[Zda]
  unfold ZaT
  rw[flatMap_append]
 refine ⟨?_,?_,a.en.mono (OSame.ts (OSame.wr hp) a.notup),?_,by simp⟩
 ·intro e he
  unfold ZdW at he
  rcases mem_append.mp he with he|he
  ·simp only[mem_cons,not_mem_nil,or_false] at he
   rcases he with rfl|rfl|rfl|rfl
   ·exact Zag
   ·show upd H p _ pa=_
    rw[Zax (fun e:pa=p=>nw pa mem_cons_self (by rw[e];exact hp))]
    exact h1
   ·show upd H p _ pn=_
    rw[Zax (nep pn (by simp[ownA]) (by simp))]
    exact a.nl
   ·show upd H p _ pl=_
    rw[Zax (nep pl (by simp[ownA]) (by simp))]
    exact a.ll
  ·rw[flatMap_append] at he
   rcases mem_append.mp he with he|he
   ·have hm:e.1∈ZaT (fz++[z]):=nfz _ (by rw[<-Zen];exact mem_map_of_mem he)
    rw[Zax (nep e.1 (by rw[Zda];exact mem_append_right _ hm) (mem_append_right _ hm))]
    refine a.all e (mem_append_right _ ?_)
    rw[flatMap_append]
    exact mem_append_left _ he
   ·have hm:e.1∈ZaT gz:=by rw[<-Zen];exact mem_map_of_mem he
    rw[Zax (fun e':e.1=p=>nw e.1 (mem_cons_of_mem _ hm) (by rw[e'];exact hp))]
    exact h2 e he
 ·rw[own']
  have hs:([p,pn,pl]++ZaT fz).Nodup:=by
   refine hnd.sublist ?_
   have e1:ZaT (fz++[z])=ZaT fz++ZaT [z]:=by unfold ZaT;rw[flatMap_append]
   rw[e1]
   refine List.Sublist.append ?_ (sublist_append_left _ _)
   exact List.Sublist.cons₂ _ (List.Sublist.cons _ (List.Sublist.refl _))
  have hsub:∀ x∈[p,pn,pl]++ZaT fz,x∈ownA p pf pn pl (fz++[z]):=fun x hx=>by
   rw[Zda]
   rcases mem_append.mp hx with hx|hx
   ·refine mem_append_left _ ?_
    simp only[mem_cons,not_mem_nil,or_false] at hx ⊢
    rcases hx with h|h|h
    ·exact .inl h
    ·exact .inr (.inr (.inl h))
    ·exact .inr (.inr (.inr h))
   ·exact mem_append_right _ (nfz x hx)
  have hall:(([p,pn,pl]++ZaT fz)++(pa::ZaT gz)).Nodup:=nodup_append.mpr ⟨hs,nd,fun x hx y hy e=>nw y hy (e▸hsub x hx)⟩
  refine (List.Perm.nodup_iff ?_).mp hall
  show List.Perm (p::pn::pl::(ZaT fz)++(pa::ZaT gz)) (p::pa::pn::pl::(ZaT fz++ZaT gz))
  refine List.Perm.cons _ ?_
  show List.Perm ((pn::pl::ZaT fz)++(pa::ZaT gz)) (pa::((pn::pl::ZaT fz)++ZaT gz))
  exact perm_middle
 ·have os:OSame (ownA p pf pn pl (fz++[z])) H (upd H p (.ins C dx (ZaY (.ref pp) (.ref pa) (.ref pn) (.int h.gone) (.ref pl) ve))):=OSame.wr hp
  have b:PgAt (ownA p pa pn pl (fz++gz)) H Pg pp:=a.pg.both pg fun x hx=>by
   rw[own'] at hx
   rcases mem_append.mp hx with hx|hx
   ·simp only[mem_cons,not_mem_nil,or_false] at hx
    rcases hx with rfl|rfl|rfl|rfl
    ·exact .inl hp
    ·exact .inr mem_cons_self
    ·exact .inl (by simp[ownA])
    ·exact .inl (by simp[ownA])
   ·rcases mem_append.mp hx with hx|hx
    ·exact .inl (by rw[Zda];exact mem_append_right _ (nfz x hx))
    ·exact .inr (mem_cons_of_mem _ hx)
  have hp':p∈ownA p pa pn pl (fz++gz):=by simp[ownA]
  exact b.by (OSame.wr hp') (OSame.ts os a.notup) fun x hx=>.inl hx
end
end My
end
section
namespace My
open PySem L2
section
variable {P:Program} {w:World} {K:W.Frag} {mg:Str->Option Value} {base:Heap}
variable {C CC:Addr}
theorem via3 {b:V->V->V->Hp->VK->Prop} {v1 v2 v3:V} {H:Hp} {Q:VK} {E:XK} (W:V->Hp->Prop) (h:∀ Q':VK,(∀ v H1,W v H1->Q' v H1)->b v1 v2 v3 H Q') (k:∀ v H1,W v H1->Q v H1):sp3 b [v1,v2,v3] H Q E:=use3 (h Q k)
theorem rd_ifV {c:TT} {ta tb:TE} {σ:St} {H:Hp} {Q:VK} (W:V->Hp->Prop) (h:∀ Q':VK,(∀ v H1,W v H1->Q' v H1)->tIf c ta tb σ H Q') (k:∀ v H1,W v H1->Q v H1):tIf c ta tb σ H Q:=h Q k
theorem ZcQ {tb:TS} {D:Ends} {σ:St} {H:Hp} {I:St->Hp->Prop} (h:∀ N:St->Hp->Prop,(∀ σ' H',I σ' H'->N σ' H')->tb { D with nx:=N,ct:=N,bk:=D.nx } σ H):∃ N:St->Hp->Prop,(∀ σ' H',N σ' H'->I σ' H')/\tb { D with nx:=N,ct:=N,bk:=D.nx } σ H:=⟨I,fun _ _ h=>h,h I fun _ _ h=>h⟩
theorem Zk6 {vs:List V} {v:V}:cutV (vs++[v]) none (some (-1))=vs:=by
 unfold cutV
 have e1:HT.sIx (vs++[v]).length 0 none=0:=rfl
 have e2:HT.sIx (vs++[v]).length (vs++[v]).length (some (-1))=vs.length:=by
  simp only[HT.sIx,length_append,length_cons,length_nil]
  simp
  lia
 rw[e1,e2]
 simp
theorem HA.out {p dx pp pf pn pl pc:Addr} {fz:List FZ} {H H':Hp} {Pg:List Df} {h:HS} {ve:V} (a:HA C p dx pp pf pn pl fz H Pg h ve) (o:OSame [pc] H H') (n:pc∉ownA p pf pn pl fz) (nt:∀ xs,H pc≠some (.tup xs)) (pg:PgAt (pc::ownA p pf pn pl fz) H Pg pp):HA C p dx pp pf pn pl fz H' Pg h ve/\PgAt (pc::ownA p pf pn pl fz) H' Pg pp:=by
 have ts:TSame H H':=o.ts fun x hx xs=>by rw[mem_singleton.mp hx];exact nt xs
 have os:OSame (pc::ownA p pf pn pl fz) H H':=fun b u nb e=>o b u (fun m=>nb (by rw[mem_singleton.mp m];exact mem_cons_self)) e
 have pg':=pg.by os ts (own':=pc::ownA p pf pn pl fz) fun x hx=>.inl hx
 refine ⟨⟨a.all.by fun b u m e=>o b u (fun z=>n ?_) e,a.nd,a.en.mono ts,pg.by os ts fun x hx=>.inl (mem_cons_of_mem _ hx),a.fr⟩,pg'⟩
 rw[Zb2] at m
 rw[<-mem_singleton.mp z]
 exact m
theorem HA.live {p dx pp pf pn pl x:Addr} {fz:List FZ} {H:Hp} {Pg:List Df} {h:HS} {ve:V} (a:HA C p dx pp pf pn pl fz H Pg h ve) (m:x∈ownA p pf pn pl fz):∃ o,H x=some o:=by
 rw[<-Zb2 (C:=C) (dx:=dx) (pp:=pp) (h:=h) (ve:=ve)] at m
 obtain ⟨ob,hob,rfl⟩:=mem_map.mp m
 exact ⟨_,a.all _ hob⟩
structure LGood (P:List Df) (sts:List Std) (most:Int) (W:Nat->List Int->HS->Prop) (μ:Nat->Nat) (M:Nat):Prop where
 le:∀ k,μ k<=M
 st:∀ k ws h,W k ws h->∃ st,sts[k]?=some st/\SOk P st ws/\h.news.length<=200000/\∀ e,Za1 P st ws=some e->whyA most h st ws (some e)=none->EOk e (wsA h st ws).length/\WsO (wsA h st ws)/\W e.k.toNat (e.moves.map (wF (wsA h st ws))) (hA P h st ws e)/\(1<=ZbK st.deed e\/(ZbK st.deed e=0/\μ e.k.toNat < μ k))
theorem ZfC {P:List Df} {most:Int} {h:HS} {st:Std} {ws:List Int} (w:whyA most h st ws (Za1 P st ws)=none):∃ e,Za1 P st ws=some e/\h.gone+ZbK st.deed e<=most/\∀ e',st.deed=.take e'->h.left≠[]:=by
 have short:∀ {d:Dd} {e:Edg},(if most < h.gone+ZbK d e then some (Str.ofString "short") else none)=none->h.gone+ZbK d e<=most:=fun {d e} hs=>by
  by_cases c:most < h.gone+ZbK d e
  ·rw[if_pos c] at hs;cases hs
  ·lia
 cases hdd:st.deed with
 | leave=>unfold whyA at w;rw[hdd] at w;cases w
 | go e =>
  have ee:Za1 P st ws=some e:=by unfold Za1;rw[hdd];rfl
  unfold whyA at w
  rw[ee,hdd] at w
  refine ⟨e,ee,?_,fun _ z=>by cases z⟩
  exact short w
 | tell e =>
  have ee:Za1 P st ws=some e:=by unfold Za1;rw[hdd];rfl
  unfold whyA at w
  rw[ee,hdd] at w
  refine ⟨e,ee,?_,fun _ z=>by cases z⟩
  exact short w
 | test y n =>
  obtain ⟨e,ee⟩:∃ e,Za1 P st ws=some e:=by unfold Za1;rw[hdd];exact ⟨_,rfl⟩
  unfold whyA at w
  rw[ee,hdd] at w
  refine ⟨e,ee,?_,fun _ z=>by cases z⟩
  exact short w
 | take e =>
  have ee:Za1 P st ws=some e:=by unfold Za1;rw[hdd];rfl
  unfold whyA at w
  rw[ee,hdd] at w
  by_cases c:h.left=[]
  ·simp only[if_pos c] at w;cases w
  ·simp only[if_neg c] at w
   refine ⟨e,ee,?_,fun _ _=>c⟩
   exact short w
 | hold wn n e =>
  have ee:Za1 P st ws=some e:=by unfold Za1;rw[hdd];rfl
  unfold whyA at w
  rw[ee,hdd] at w
  by_cases c:ws.getD wn.toNat 0=n
  ·simp only[if_pos c] at w
   refine ⟨e,ee,?_,fun _ z=>by cases z⟩
   exact short w
  ·simp only[if_neg c] at w;cases w
theorem meas {most g r:Int} {M a b:Nat} (hb:b<=M) (hr:g+r<=most) (h:1<=r\/(r=0/\b < a)):(most - (g+r)).toNat * (M+1)+b < (most - g).toNat * (M+1)+a:=by
 rcases h with h|⟨h,h'⟩
 ·obtain ⟨k,hk⟩:∃ k:Nat,(most - g).toNat=(most - (g+r)).toNat+1+k:=⟨(most - g).toNat - (most - (g+r)).toNat - 1,by lia⟩
  rw[hk,Nat.add_mul,Nat.add_mul,Nat.one_mul]
  lia
 ·subst h
  rw[Int.add_zero]
  lia
def ZdO (P:List Df) (most:Int) (bs:List Bool) (n:Nat) (h:HS) (st:Std) (ws:List Int):Option Str:=if bs.getD n false=true then some "away" else whyA most h st ws (Za1 P st ws)
inductive Pr_go_lane (C CC:Addr) (x y z u v:V) (H:Hp) (Q:VK):Prop
 | mk (p dx pp pf pn pl fz z0 P h ve q ys sts k most pc dxc qb bs n H0 W μ M) (_:x=.ref p) (_:HA C p dx pp pf pn pl (fz++[z0]) H P h ve) (_:PgAt (pc::ownA p pf pn pl (fz++[z0])) H P pp) (_:y=.ref q) (_:LaneAt H0 sts q ys) (_:z=.int ((k:Nat):Int)) (_:u=.int most) (_:v=.ref pc) (_:ChAt CC pc dxc qb H bs n) (_:H0 qb≠none) (_:Same H0 H) (_:∀ x∈pc::ownA p pf pn pl (fz++[z0]),H0 x=none) (_:pc∉ownA p pf pn pl (fz++[z0])) (_:LGood P sts most W μ M) (_:W k z0.2.2.2 h) (_:fz.length<=1000) (_:∀ fz' pf' h' why k' n' t H',LRun P sts most bs h k z0.2.2.2 n h' why k' n'->HA C p dx pp pf' pn pl fz' H' P h' ve->PgAt (pc::ownA p pf' pn pl fz') H' P pp->ChAt CC pc dxc qb H' bs n'->OSame (pc::ownA p pf pn pl (fz++[z0])) H H'->(∀ x∈ownA p pf' pn pl fz',x∈ownA p pf pn pl (fz++[z0])\/H x=none)->pc∉ownA p pf' pn pl fz'->H' t=some (.tup [.str why,.int k',.int h'.gone])->Q (.ref t) H'):Pr_go_lane C CC x y z u v H Q
def Zfs (C CC:Addr):Sp:=sp5 (Pr_go_lane C CC)
theorem sc_go_lane:FnScope ["hand","lane","k","most","chances","words","stand","edge","reason"] ["hand","lane","k","most","chances"] (Zan Zed):=by walk_at"fs"
theorem Zke (B:Blt mg) (HHand:CHand K C) (HChances:CChances K CC) (T_go_lane:TopFn K mg "go_lane" Zed ["hand","lane","k","most","chances"]) (Cwords_in:Callee P w K mg base "words_in" 1 ["hand"] (ZeU C)) (Cedge_ahead:Callee P w K mg base "edge_ahead" 4 ["program","stand","words"] Zd9) (MChances_ask:MCal P w K mg base CC "ask" 1 ["self"] (Zjb CC)) (Caway_reason:Callee P w K mg base "away_reason" 2 ["hand","stand","words","edge","most"] (Zja C)) (Cframes_of:Callee P w K mg base "frames_of" 2 ["paper","words"] (Zd8 K)) (Cgo_edge:Callee P w K mg base "go_edge" 4 ["hand","stand","words","edge"] (Zft C)):Callee P w K mg base "go_lane" 5 ["hand","lane","k","most","chances"] (Zfs C CC):=by
 refine T_go_lane.ok5 sc_go_lane fun f cdv A outer s H v1 v2 v3 v4 v5 Q E hr hh=>?_
 have nd:=sc_go_lane.nd
 obtain ⟨p,dx,pp,pf,pn,pl,fz,z0,Pg,h0,ve,q,ys,sts,k0,most,pc,dxc,qb,bs,n0,H0,W,μ,M,rfl,a0,pg0,rfl,la,rfl,rfl,rfl,ch0,hqb,s00,fr0,npc,G,w0,hfl,k⟩:=hh
 generalize hown:ownA p pf pn pl (fz++[z0])=own at pg0 fr0 npc k
 refine' ZaB [some (.ref p),some (.ref q),some (.int ((k0:Nat):Int)),some (.int most),some (.ref pc),none,none,none,none] rfl ?hb ?hg
 case hb=>exact (Zaf (Zbl (i:=5) nd rfl (Or.inl rfl) (ZaS Cwords_in hr.m (by rfl) (Zac (pv 0) Zad))) (Zal (Zeh PassesOwn.never (ZdK ZiB) (Zaf (Zbd (i:=6) nd rfl (Or.inl rfl) (Zai (k_ix (K:=K) rfl) (pv 1) (pv 2) (fun _ _=>rfl))) (Zaf (Zbl (i:=7) nd rfl (Or.inl rfl) (ZaS Cedge_ahead hr.m (by rfl) (Zbc (Zbj (K:=K) rfl (pv 0) rfl) (Zac (pv 6) (Zac (pv 5) Zad))))) (Zaf (ZcS (i:=8) nd rfl (Or.inl rfl) (ZdD (ZdK (Zmd MChances_ask HChances.cl hr.m (pv 4))) Zat (ZaS Caway_reason hr.m (by rfl) (Zac (pv 0) (Zac (pv 6) (Zac (pv 5) (Zac (pv 7) (Zac (pv 3) Zad)))))))) (Zaf (ZaZ (Zar Zh9 (pv 8) Zcr (Zau _)) (Zaf (ZcU (K:=K) rfl (pv 0) (ZaN Zek (ZcG (k_sl (K:=K) rfl) (Zbj (K:=K) rfl (pv 0) rfl) Zdn (Zdm (Zcp ZbB Zaa))) (ZaS Cframes_of hr.m (by rfl) (Zav (Zai (k_ix (K:=K) rfl) (pv 6) Zaa (fun _ _=>rfl)) (Zac (pv 5) Zad)))) rfl) (Zal (Zay (Zap (Zac (pv 8) (Zac (pv 2) (Zbc (Zbj (K:=K) rfl (pv 0) rfl) Zad))))))) ZaE) (Zaf (Zbl (i:=5) nd rfl (Or.inl rfl) (ZaS Cgo_edge hr.m (by rfl) (Zac (pv 0) (Zac (pv 6) (Zac (pv 5) (Zac (pv 7) Zad)))))) (Zal (Zbd (i:=2) nd rfl (Or.inl rfl) (Zai (k_ix (K:=K) rfl) (pv 7) Zaa (fun _ _=>rfl))))))))))))
 walk_at"rdx"
 refine use1 ⟨p,dx,pp,pf,pn,pl,fz,z0,Pg,h0,ve,rfl,a0,fun qw0 H1 s1 nq1 e1=>?_⟩
 have a1:=a0.mono s1
 walk_at"rdx"
 refine ⟨(fun m σ Hx=>Ex8 fun k1 ws qw n h c6 c7 c8=>An11 (m=(most - h.gone).toNat * (M+1)+μ k1) (σ=[some (.ref p),some (.ref q),some (.int ((k1:Nat):Int)),some (.int most),some (.ref pc),some (.ref qw),c6,c7,c8]) (HA C p dx pp pf pn pl (fz++[z0]) Hx Pg h ve) (PgAt (pc::own) Hx Pg pp) (ChAt CC pc dxc qb Hx bs n) (Hx qw=some (.lst (ws.map V.int))) (qw∉pc::own) (Same H0 Hx) (OSame (pc::own) H Hx) (W k1 ws h) (∀ h' why k' n',LRun Pg sts most bs h k1 ws n h' why k' n'->LRun Pg sts most bs h0 k0 z0.2.2.2 n0 h' why k' n')),⟨_,k0,z0.2.2.2,qw0,n0,h0,none,none,none,rfl,rfl,a1,pg0.by (OSame.of s1) s1.ts (fun x hx=>.inl hx),⟨s1 _ _ ch0.1,s1 _ _ ch0.2⟩,e1,fun m=>?_,s00.trans s1,OSame.of s1,w0,fun _ _ _ _ r=>r⟩,?_⟩
 ·rcases mem_cons.mp m with z|z
  ·rw[z,ch0.1] at nq1;cases nq1
  ·rw[<-hown] at z
   obtain ⟨o,ho⟩:=HA.live a0 z
   rw[ho] at nq1;cases nq1
 rintro m σ Hx ⟨k1,ws,qw,n,h,c6,c7,c8,rfl,rfl,a,pg,ch,hqw,nqw,sx,ox,wk,back⟩
 have hntc:∀ xs,Hx pc≠some (.tup xs):=fun xs e=>by rw[ch.1] at e;cases e
 obtain ⟨st,est,ok,hnews,hstep⟩:=G.st k1 ws h wk
 obtain ⟨v,ev,sv0⟩:=la.get est
 have sv:=sv0.mono sx
 have nqw1:qw≠pc:=fun z=>nqw (by rw[z];exact mem_cons_self)
 have nqw2:qw∉own:=fun z=>nqw (mem_cons_of_mem _ z)
 have sfree:Zli own Hx st v:=fun t l vd e e' hm=>by
  obtain ⟨t0,l0,ys0,vd0,e0,h1,h2,_⟩:=sv0
  rw[e] at e0
  cases e0
  rw[sx _ _ h1] at e'
  cases e'
  rw[fr0 l (mem_cons_of_mem _ hm)] at h2
  cases h2
 walk_at"rdx"
 refine ZcQ fun N hN=>?_
 walk_at"rdx"
 refine Zak (sx _ _ la.lst) (Zaw (n:=k1) rfl ev) ?_
 walk_at"rdx"
 refine ZaU a.obj HHand.cl HHand.n_program ZcV ?_
 walk_at"rdx"
 refine via3 (fun v1 H1=>EdgV H1 (Za1 Pg st ws) v1/\Same Hx H1) (fun Q' hQ'=>⟨_,Pg,pp,st,ws,qw,rfl,a.pg,sv,rfl,hqw,ok,fun hn H1 s1=>hQ' _ _ ⟨.inl ⟨hn,rfl⟩,s1⟩,fun e v1 H1 he re s1=>hQ' _ _ ⟨.inr ⟨e,he,re⟩,s1⟩⟩) ?_
 rintro ved H1 ⟨evd,s1⟩
 have a1:=a.mono s1
 have pg1:=pg.by (OSame.of s1) s1.ts (own':=pc::own) (fun x hx=>.inl hx)
 have ch1:ChAt CC pc dxc qb H1 bs n:=⟨s1 _ _ ch.1,s1 _ _ ch.2⟩
 have hqw1:=s1 _ _ hqw
 have sv1:=sv.mono s1
 have sx1:=sx.trans s1
 have ox1:OSame (pc::own) H H1:=fun b o nb eb=>s1 _ _ (ox b o nb eb)
 have sfree1:Zli own H1 st v:=fun t l vd e e' hm=>by
  obtain ⟨t0,l0,ys0,vd0,e0,h1,h2,_⟩:=sv0
  rw[e] at e0
  cases e0
  rw[sx1 _ _ h1] at e'
  cases e'
  rw[fr0 l (mem_cons_of_mem _ hm)] at h2
  cases h2
 clear s1 a pg ch hqw sv sfree hntc sx ox
 have hntc:∀ xs,H1 pc≠some (.tup xs):=fun xs e=>by rw[ch1.1] at e;cases e
 have oc:OSame [pc] H1 (upd H1 pc (.ins CC dxc (Zbw (.ref qb) (.int (n+1:Nat))))):=OSame.wr mem_cons_self
 obtain ⟨a2,pg2⟩:=HA.out (pc:=pc) a1 oc (by rw[hown];exact npc) hntc (by rw[hown];exact pg1)
 rw[hown] at pg2
 have ts2:TSame H1 (upd H1 pc (.ins CC dxc (Zbw (.ref qb) (.int (n+1:Nat))))):=oc.ts fun x hx xs=>by rw[mem_singleton.mp hx];exact hntc xs
 have nqb:qb≠pc:=fun z=>hqb (by rw[z];exact fr0 pc mem_cons_self)
 have ch2:ChAt CC pc dxc qb (upd H1 pc (.ins CC dxc (Zbw (.ref qb) (.int (n+1:Nat))))) bs (n+1):=⟨Zag,by rw[Zax nqb];exact ch1.2⟩
 have hqw2:upd H1 pc (.ins CC dxc (Zbw (.ref qb) (.int (n+1:Nat)))) qw=some (.lst (ws.map V.int)):=by rw[Zax nqw1];exact hqw1
 have sx2:Same H0 (upd H1 pc (.ins CC dxc (Zbw (.ref qb) (.int (n+1:Nat))))):=fun b o eb=>by
  rw[Zax (fun z:b=pc=>by rw[z,fr0 pc mem_cons_self] at eb;cases eb)]
  exact sx1 _ _ eb
 have ox2:OSame (pc::own) H (upd H1 pc (.ins CC dxc (Zbw (.ref qb) (.int (n+1:Nat))))):=fun b o nb eb=>by
  rw[Zax (fun z:b=pc=>nb (by rw[z];exact mem_cons_self))]
  exact ox1 b o nb eb
 have sv2:StdAt (upd H1 pc (.ins CC dxc (Zbw (.ref qb) (.int (n+1:Nat))))) st v:=sv0.mono sx2
 have evd2:EdgV (upd H1 pc (.ins CC dxc (Zbw (.ref qb) (.int (n+1:Nat))))) (Za1 Pg st ws) ved:=by
  rcases evd with h|⟨e,he,re⟩
  ·exact .inl h
  ·exact .inr ⟨e,he,re.mono ts2⟩
 refine ZaC ?_
 dsimp only
 refine Zbo (Zbp ?_)
 refine rd_ifV (fun v1 H2=>v1=whyV (ZdO Pg most bs n h st ws)/\H2=upd H1 pc (.ins CC dxc (Zbw (.ref qb) (.int (n+1:Nat))))) (fun Q' hQ'=>?_) ?_
 ·walk_at"rdx"
  refine ZdS ch1.1 ZlJ ?_
  walk_at"rdx"
  refine use1 ⟨pc,dxc,qb,bs,n,rfl,ch1,?_⟩
  cases hb:bs.getD n false with
  | true =>
   walk_at"rdx"
   exact hQ' _ _ ⟨by unfold ZdO;rw[if_pos hb];rfl,rfl⟩
  | false =>
   walk_at"rdx"
   refine use5 ⟨p,dx,pp,pf,pn,pl,_,Pg,h,ve,st,ws,qw,most,rfl,a2,sv2,rfl,hqw2,ok,evd2,rfl,hQ' _ _ ⟨?_,rfl⟩⟩
   unfold ZdO
   rw[if_neg (by rw[hb];exact Bool.false_ne_true)]
 rintro vr H2 ⟨rfl,rfl⟩
 generalize upd H1 pc (.ins CC dxc (Zbw (.ref qb) (.int (n+1:Nat))))=H2 at a2 pg2 ts2 ch2 hqw2 sx2 ox2 sv2 evd2
 have sfree2:Zli own H2 st v:=fun t l vd e e' hm=>by
  obtain ⟨t0,l0,ys0,vd0,e0,h1,h2,_⟩:=sv0
  rw[e] at e0
  cases e0
  rw[sx2 _ _ h1] at e'
  cases e'
  rw[fr0 l (mem_cons_of_mem _ hm)] at h2
  cases h2
 clear sfree1 sx1 ox1 ch1 a1 pg1 hqw1 sv1 evd hntc oc ts2
 refine ZaC ?_
 dsimp only
 cases hre:ZdO Pg most bs n h st ws with
 | some why =>
  have run1:LRun Pg sts most bs h k1 ws n (ledH h st ws) why k1 (n+1):=by
   unfold ZdO at hre
   by_cases hb:bs.getD n false=true
   ·rw[if_pos hb] at hre
    cases hre
    exact .called est hb
   ·rw[if_neg hb] at hre
    exact .left est (by simpa using hb) hre
  dsimp only [whyV]
  walk_at"rdx"
  refine ZeG (fun _=>?_) (fun z=>by cases z)
  walk_at"rdx"
  refine ZaU a2.obj HHand.cl HHand.n_frames Zbn ?_
  walk_at"rdx"
  refine Zji (SqL.of a2.fl) fun p3 hp3=>?_
  have e3:cutV ((fz++[z0]).map fun z=>V.ref z.1.1) none (some (-1))=fz.map fun z=>V.ref z.1.1:=by
   rw[map_append]
   exact Zk6
  rw[e3]
  have s3:=Same.new (o:=.lst (fz.map fun z=>V.ref z.1.1)) hp3
  have h3:upd H2 p3 (.lst (fz.map fun z=>V.ref z.1.1)) p3=some (.lst (fz.map fun z=>V.ref z.1.1)):=Zag
  generalize upd H2 p3 (.lst (fz.map fun z=>V.ref z.1.1))=H3 at s3 h3
  obtain ⟨t,l,td,ysP,xsD,rfl,ht,hl,hd,rp,rx⟩:=Zdi (sv2.mono s3)
  walk_at"rdx"
  refine Zaq (v:=.ref l) ht rfl ?_
  walk_at"rdx"
  refine use2 ⟨l,qw,st.paper,ysP,ws,rfl,rfl,hl,rp,s3 _ _ hqw2,ok.few,ok.wo,ok.fms,fun pa gz H4 hgz w4=>?_⟩
  have s4:Same H3 H4:=fun b o eb=>w4.os b o (fun m=>by cases m) eb
  have h4:H4 pa=some (.lst (gz.map fun z=>V.ref z.1.1)):=w4.all (pa,_) mem_cons_self
  have hgl:gz.length<=100:=by
   have:=congrArg List.length hgz
   rw[length_map,length_map] at this
   rw[this]
   exact ok.few
  walk_at"rdx"
  refine ZeE (s4 _ _ h3) h4 (Za2 (by rw[length_map,length_map];lia)) fun p5 hp5=>?_
  have e5:(fz.map fun z=>V.ref z.1.1)++(gz.map fun z=>V.ref z.1.1)=(fz++gz).map fun z=>V.ref z.1.1:=by rw[map_append]
  rw[e5]
  have s5:=Same.new (o:=.lst ((fz++gz).map fun z=>V.ref z.1.1)) hp5
  have h5:upd H4 p5 (.lst ((fz++gz).map fun z=>V.ref z.1.1)) p5=some (.lst ((fz++gz).map fun z=>V.ref z.1.1)):=Zag
  generalize upd H4 p5 (.lst ((fz++gz).map fun z=>V.ref z.1.1))=H5 at s5 h5
  have s25:=(s3.trans s4).trans s5
  have a5:=a2.mono s25
  have pg5:=pg2.by (OSame.of s25) s25.ts (own':=pc::own) (fun x hx=>.inl hx)
  walk_at"rdx"
  refine Zb3 a5.obj HHand.cl HHand.n_frames (Nat.lt_of_sub_eq_succ rfl) ?_
  rw[ZjO]
  have gN:∀ x∈ZaT gz,H3 x=none/\∃ o,H4 x=some o:=fun x hx=>by
   rw[<-Zen] at hx
   obtain ⟨ob,hob,rfl⟩:=mem_map.mp hx
   exact ⟨w4.nw _ (mem_map.mpr ⟨ob,mem_cons_of_mem _ hob,rfl⟩),_,w4.all _ (mem_cons_of_mem _ hob)⟩
  have newN:∀ x∈p5::ZaT gz,H2 x=none:=fun x hx=>by
   rcases mem_cons.mp hx with rfl|hx
   ·exact (s3.trans s4).free hp5
   ·exact s3.free (gN x hx).1
  have outN:∀ x∈p5::ZaT gz,H x=none:=fun x hx=>by
   have hn:=newN x hx
   cases hz:H x with
   | none=>rfl
   | some o =>
    by_cases hm:x∈pc::own
    ·rcases mem_cons.mp hm with rfl|hm
     ·rw[ch2.1] at hn;cases hn
     ·rw[<-hown] at hm
      obtain ⟨o',ho'⟩:=HA.live a2 hm
      rw[ho'] at hn;cases hn
    ·rw[ox2 x o hm hz] at hn;cases hn
  have nd5:(p5::ZaT gz).Nodup:=by
   refine nodup_cons.mpr ⟨fun m=>?_,?_⟩
   ·obtain ⟨o,ho⟩:=(gN p5 m).2
    rw[ho] at hp5
    cases hp5
   ·have:=w4.nd
    unfold fObjs at this
    rw[map_cons,Zen] at this
    exact (nodup_cons.mp this).2
  have nw5:∀ x∈p5::ZaT gz,x∉ownA p pf pn pl (fz++[z0]):=fun x hx m=>by
   obtain ⟨o,ho⟩:=HA.live a2 m
   rw[newN x hx] at ho
   cases ho
  have pgN:PgAt (p5::ZaT gz) H5 Pg pp:=a2.pg.by (OSame.of s25) s25.ts fun x hx=>.inr (newN x hx)
  have h2g:AllAt H5 (gz.flatMap ZbS):=fun e he=>s5 _ _ (w4.all e (mem_cons_of_mem _ he))
  have a6:=HA.setFrames a5 h5 h2g nd5 nw5 pgN
  have hp6:p∈own:=by rw[<-hown];simp[ownA]
  have o6:OSame own H5 (upd H5 p (.ins C dx (ZaY (.ref pp) (.ref p5) (.ref pn) (.int h.gone) (.ref pl) ve))):=OSame.wr hp6
  have n6:ZeA own H5:=by rw[<-hown];exact a5.notup
  have npcp:pc≠p:=fun z=>npc (by rw[z];exact hp6)
  have ch6:ChAt CC pc dxc qb (upd H5 p (.ins C dx (ZaY (.ref pp) (.ref p5) (.ref pn) (.int h.gone) (.ref pl) ve))) bs (n+1):=⟨by rw[Zax npcp];exact s25 _ _ ch2.1,by rw[Zax (fun z:qb=p=>hqb (by rw[z];exact fr0 p (mem_cons_of_mem _ hp6)))];exact s25 _ _ ch2.2⟩
  have ox6:OSame (pc::own) H (upd H5 p (.ins C dx (ZaY (.ref pp) (.ref p5) (.ref pn) (.int h.gone) (.ref pl) ve))):=fun b o nb eb=>o6 b o (fun z=>nb (mem_cons_of_mem _ z)) (s25 _ _ (ox2 b o nb eb))
  have pg6:PgAt (pc::ownA p p5 pn pl (fz++gz)) (upd H5 p (.ins C dx (ZaY (.ref pp) (.ref p5) (.ref pn) (.int h.gone) (.ref pl) ve))) Pg pp:=a6.pg.both (pg5.by (own:=pc::own) (fun b o nb eb=>o6 b o (fun z=>nb (mem_cons_of_mem _ z)) eb) (o6.ts n6) fun x hx=>.inl hx) fun x hx=>by
   rcases mem_cons.mp hx with rfl|hx
   ·exact .inr mem_cons_self
   ·exact .inl hx
  have hled:{ h with frames:=fz.map (·.2)++gz.map (·.2) }=ledH h st ws:=by
   unfold ledH
   rw[hgz,<- a2.fr,map_append,map_cons,map_nil,dropLast_concat]
  rw[hled] at a6
  generalize upd H5 p (.ins C dx (ZaY (.ref pp) (.ref p5) (.ref pn) (.int h.gone) (.ref pl) ve))=H6 at a6 o6 ch6 ox6 pg6
  walk_at"rdx"
  refine ZaU a6.obj HHand.cl HHand.n_gone ZdV ?_
  walk_at"rdx"
  walk_at"mk";intro t7 ht7
  have s7:=Same.new (o:=.tup [V.str why,V.int ((k1:Nat):Int),V.int (ledH h st ws).gone]) ht7
  refine k (fz++gz) p5 (ledH h st ws) why k1 (n+1) t7 _ (back _ _ _ _ run1) (a6.mono s7) (pg6.by (OSame.of s7) s7.ts (fun x hx=>.inl hx)) ⟨s7 _ _ ch6.1,s7 _ _ ch6.2⟩ (fun b o nb eb=>s7 _ _ (ox6 b o nb eb)) (fun x hx=>?_) (fun hx=>?_) Zag
  ·rw[Zda] at hx
   rcases mem_append.mp hx with hx|hx
   ·simp only[mem_cons,not_mem_nil,or_false] at hx
    rcases hx with rfl|rfl|rfl|rfl
    ·exact .inl hp6
    ·exact .inr (outN x mem_cons_self)
    ·exact .inl (by rw[<-hown];simp[ownA])
    ·exact .inl (by rw[<-hown];simp[ownA])
   ·unfold ZaT at hx
    rw[flatMap_append] at hx
    rcases mem_append.mp hx with hx|hx
    ·refine .inl ?_
     rw[<-hown,Zda]
     refine mem_append_right _ ?_
     unfold ZaT
     rw[flatMap_append]
     exact mem_append_left _ hx
    ·exact .inr (outN x (mem_cons_of_mem _ hx))
  ·rw[Zda] at hx
   have hpc2:∀ x∈p5::ZaT gz,pc≠x:=fun x hx' e=>by
    have:=newN x hx'
    rw[<-e,ch2.1] at this
    cases this
   rcases mem_append.mp hx with hx|hx
   ·simp only[mem_cons,not_mem_nil,or_false] at hx
    rcases hx with e|e|e|e
    ·exact npcp e
    ·exact hpc2 p5 mem_cons_self e
    ·exact npc (by rw[e,<- hown];simp[ownA])
    ·exact npc (by rw[e,<- hown];simp[ownA])
   ·unfold ZaT at hx
    rw[flatMap_append] at hx
    rcases mem_append.mp hx with hx|hx
    ·refine npc ?_
     rw[<-hown,Zda]
     refine mem_append_right _ ?_
     unfold ZaT
     rw[flatMap_append]
     exact mem_append_left _ hx
    ·exact hpc2 pc (mem_cons_of_mem _ hx) rfl
 | none =>
  have hb:bs.getD n false=false:=by
   unfold ZdO at hre
   by_cases hb:bs.getD n false=true
   ·rw[if_pos hb] at hre;cases hre
   ·simpa using hb
  have hw:whyA most h st ws (Za1 Pg st ws)=none:=by
   unfold ZdO at hre
   rwa [if_neg (by rw[hb];exact Bool.false_ne_true)] at hre
  obtain ⟨e,ee,hgm,htk⟩:=ZfC hw
  obtain ⟨eo,wo,wk',hme⟩:=hstep e ee (by rw[<-ee];exact hw)
  have re2:Rep H2 e.d ved:=by
   rcases evd2 with ⟨z,_⟩|⟨e',he',re⟩
   ·rw[ee] at z;cases z
   ·rw[ee] at he'
    cases he'
    exact re
  dsimp only [whyV]
  walk_at"rdx"
  refine ZeG (fun z=>absurd rfl z) (fun _=>?_)
  walk_at"rdx"
  refine use4 ⟨p,dx,pp,pf,pn,pl,_,Pg,h,ve,st,ws,qw,e,rfl,a2,sv2,by rw[hown];exact sfree2,rfl,hqw2,by rw[hown];exact nqw2,ok,re2,eo,wo,htk,hnews,fun q3 H3 a3 o3 nq3 e3=>?_⟩
  rw[hown] at o3
  have n2:ZeA own H2:=by rw[<-hown];exact a2.notup
  have ts3:=o3.ts n2
  have re3:=re2.mono ts3
  obtain ⟨te,qm,ms,rfl,hte,hqm,rm⟩:=Zf1 re3
  walk_at"rdx"
  refine Zaq (v:=.int e.k) hte rfl ?_
  walk_at"rdx"
  have hkk:((e.k.toNat:Nat):Int)=e.k:=by have:=eo.k;lia
  refine hN _ _ ⟨_,meas (most:=most) (g:=h.gone) (r:=ZbK st.deed e) (M:=M) (a:=μ k1) (G.le e.k.toNat) hgm hme,e.k.toNat,e.moves.map (wF (wsA h st ws)),q3,n+1,hA Pg h st ws e,_,_,_,rfl,by rw[hkk];rfl,a3,?_,⟨?_,?_⟩,e3,fun m=>?_,fun b o eb=>?_,fun b o nb eb=>?_,wk',fun h' why k' n' r=>back _ _ _ _ (.on est hb ee hw r)⟩
  ·exact pg2.by (fun b o nb eb=>o3 b o (fun z=>nb (mem_cons_of_mem _ z)) eb) ts3 fun x hx=>.inl hx
  ·exact o3 _ _ npc ch2.1
  ·exact o3 _ _ (fun z=>hqb (fr0 qb (mem_cons_of_mem _ z))) ch2.2
  ·rcases mem_cons.mp m with z|z
   ·rw[z,ch2.1] at nq3;cases nq3
   ·rw[<-hown] at z
    obtain ⟨o,ho⟩:=HA.live a2 z
    rw[ho] at nq3;cases nq3
  ·exact o3 b o (fun z=>by rw[fr0 b (mem_cons_of_mem _ z)] at eb;cases eb) (sx2 _ _ eb)
  ·exact o3 b o (fun z=>nb (mem_cons_of_mem _ z)) (ox2 b o nb eb)
end
end My
end
section
namespace My
open PySem L2
section
variable {P:Program} {w:World} {K:W.Frag} {mg:Str->Option Value} {base:Heap}
variable {C CC:Addr}
def ofW (w:Int):Fm:=(0,[(1,w)])
def Zdh (m:Int):List Fm:=(List.range m.toNat).map fun (w:Nat)=>ofW (w:Int)
def plc (st:Std):Int×Int:=match st.paper with
 | s::_=>(s.1,s.2.1)
 | []=>(0,0)
def ZbE (P:List Df) (st:Std):Bool:=match st.paper with
 | [s]=>decide (st.many=ZbT P s.1/\s.2.2=Zdh st.many)
 | _=>false
def dAt (P:List Df) (sts:List Std) (pl:Int×Int):Option Nat:=sts.findIdx? fun st=>ZbE P st && decide (plc st=pl)
structure DOk (P:List Df) (st:Std):Prop where
 m:0<=st.many/\st.many<=1000
 fm:∀ s∈st.paper,∀ f∈s.2.2,f.2.length<=1000
 pf:∀ s,st.paper=[s]->0<=s.1/\∃ d,P[s.1.toNat]?=some d
 few:st.paper.length<=100
def Zfq:Sp:=sp1 fun x H Q=>∃ w,x=.int w/\∀ v H',Rep H' (fmD (ofW w)) v->Same H H'->Q v H'
theorem sc_of_word:FnScope ["w"] ["w"] (Zan Zeb):=by walk_at"fs"
theorem Zkc (T_of_word:TopFn K mg "of_word" Zeb ["w"]):Callee P w K mg base "of_word" 1 ["w"] Zfq:=by
 refine T_of_word.ok1 sc_of_word fun f cdv A outer s H v1 Q E hr hh=>?_
 have nd:=sc_of_word.nd
 obtain ⟨wn,rfl,k⟩:=hh
 refine' ZaB [some (.int wn)] rfl ?hb ?hg
 case hb=>exact (Zal (Zay (Zap (Zab Zaa (Zam (Zap (Zam (Zap (Zab Zaa (Zac (pv 0) Zad))) Zad)) Zad)))))
 walk_at"rdx"
 walk_at"mk";intro p1 h1
 walk_at"rdx"
 walk_at"mk";intro p2 h2
 walk_at"rdx"
 walk_at"mk";intro p3 h3
 have s1:=Same.new (o:=.tup [V.int 1,V.int wn]) h1
 have s2:=Same.new (o:=.tup [V.ref p1]) h2
 have s3:=Same.new (o:=.tup [V.int 0,V.ref p2]) h3
 refine k _ _ ?_ ((s1.trans s2).trans s3)
 refine ZbA Zag (Zas ZaR (Zas (ZbA (s3 _ _ Zag) (Zas (ZbA ((s2.trans s3) _ _ Zag) (Zas ZaR (Zas ZaR ZaM))) ZaM)) ZaM))
theorem Zh5:∀ (l:List Fm),D.pls (l.map fmD)=true/\D.deps (l.map fmD)<=10:=by
 have pairs:∀ l:List (Int×Int),D.pls (l.map Zfi)=true/\D.deps (l.map Zfi)<=4:=by
  intro l
  induction l with
  | nil=>exact ⟨rfl,by decide⟩
  | cons q l ih =>
   refine ⟨?_,?_⟩
   ·rw[map_cons,D.pls,ih.1];rfl
   ·rw[map_cons,D.deps]
    have:D.dep (Zfi q)<=4:=by show D.dep (.tup [.int q.1,.int q.2])<=4;simp[D.dep,D.deps]
    have:=ih.2
    lia
 intro l
 induction l with
 | nil=>exact ⟨rfl,by decide⟩
 | cons f l ih =>
  obtain ⟨p1,p2⟩:=pairs f.2
  refine ⟨?_,?_⟩
  ·rw[map_cons,D.pls,ih.1]
   show (D.pl (.tup [.int f.1,.tup (f.2.map Zfi)]) && true)=true
   simp[D.pl,D.pls,p1]
  ·rw[map_cons,D.deps]
   have h1:D.dep (fmD f)<=10:=by
    show D.dep (.tup [.int f.1,.tup (f.2.map Zfi)])<=10
    simp only[D.dep,D.deps]
    lia
   have:=ih.2
   lia
theorem ZmG {l m:List Fm} (h:l.map fmD=m.map fmD):l=m:=by
  have pin : ∀ (a b : List (Int × Int)), a.map Zfi = b.map Zfi -> a = b := by
    intro a
    induction a with
    | nil => intro b e; cases b with
      | nil => rfl
      | cons _ _ => cases e
    | cons x a ih => intro b e; cases b with
      | nil => cases e
      | cons y b =>
        rw[map_cons,map_cons] at e
        injection e with e1 e2
        rw[ih b e2]
        have : x = y := by
          have e1:D.tup [.int x.1,.int x.2]=D.tup [.int y.1,.int y.2]:=e1
          injection e1 with e1
          injection e1 with a1 e1
          injection e1 with a2 _
          injection a1 with a1
          injection a2 with a2
          exact Prod.ext a1 a2
        rw[this]
  induction l generalizing m with
  | nil => cases m with
    | nil => rfl
    | cons _ _ => cases h
  | cons x l ih => cases m with
    | nil => cases h
    | cons y m =>
      rw[map_cons,map_cons] at h
      injection h with e1 e2
      rw[ih e2]
      have : x = y := by
        have e1:D.tup [.int x.1,.tup (x.2.map Zfi)]=D.tup [.int y.1,.tup (y.2.map Zfi)]:=e1
        injection e1 with e1
        injection e1 with a1 e1
        injection e1 with a2 _
        injection a1 with a1
        injection a2 with a2
        exact Prod.ext a1 (pin _ _ a2)
      rw[this]
theorem ZlE (l m:List Fm):eqD (.tup (l.map fmD)) (.tup (m.map fmD))=decide (l=m):=by
 by_cases h:l=m
 ·rw[h,Zb8];simp
 ·rw[Za0 (fun z=>h (by injection z with z;exact ZmG z))];simp[h]
inductive Pr_is_door (x y:V) (H:Hp) (Q:VK):Prop
 | mk (own P pp st) (_:x=.ref pp) (_:PgAt own H P pp) (_:StdAt H st y) (_:DOk P st) (_:∀ H',Same H H'->Q (.bl (ZbE P st)) H'):Pr_is_door x y H Q
def Zfr:Sp:=sp2 (Pr_is_door)
theorem sc_is_door:FnScope ["program","stand","many","paper"] ["program","stand"] (Zan Zec):=by walk_at"fs"
theorem Zkd (B:Blt mg) (T_is_door:TopFn K mg "is_door" Zec ["program","stand"]) (Cof_word:Callee P w K mg base "of_word" 1 ["w"] Zfq):Callee P w K mg base "is_door" 2 ["program","stand"] Zfr:=by
 refine T_is_door.ok2 sc_is_door fun f cdv A outer s H v1 v2 Q E hr hh=>?_
 have nd:=sc_is_door.nd
 have hu:=hr.units
 obtain ⟨own,Pg,pp,st,rfl,pg,sa,ok,k⟩:=hh
 obtain ⟨t,l,td,ys,xs,rfl,ht,hl,hd,rp,rx⟩:=Zdi sa
 have hyl:=rp.length
 rw[length_map] at hyl
 have hfew:=ok.few
 refine' ZaB [some (.ref pp),some (.ref t),none,none] rfl ?hb ?hg
 case hb=>exact (Zaf (Zbd (i:=2) nd rfl (Or.inl rfl) (Zai (k_ix (K:=K) rfl) (pv 1) Zaa (fun _ _=>rfl))) (Zaf (Zbd (i:=3) nd rfl (Or.inl rfl) (Zai (k_ix (K:=K) rfl) (pv 1) Zaa (fun _ _=>rfl))) (Zaf (ZaZ (PW.pt (Ziz (Zar ZkK (Zbb (ZdU (K:=K) rfl) (by rfl) B.b_len Zcu (Zac (pv 3) Zad)) Zaa (Zau _)) (Zgz (Zar ZkK (pv 2) (Zai (k_ix (K:=K) rfl) (Zai (k_ix (K:=K) rfl) (pv 0) (Zai (k_ix (K:=K) rfl) (Zai (k_ix (K:=K) rfl) (pv 3) Zaa (fun _ _=>rfl)) Zaa (fun _ _=>rfl)) (fun _ _=>rfl)) Zaa (fun _ _=>rfl)) (Zau _))))) (Zal (Zay ZiB)) ZaE) (Zal (Zay (ZcN (op_eqD hu) (Zai (k_ix (K:=K) rfl) (Zai (k_ix (K:=K) rfl) (pv 3) Zaa (fun _ _=>rfl)) Zaa (fun _ _=>rfl)) (Zbf (Zev (K:=K) rfl) (by rfl) B.b_tuple ZdG (ZcH (Zb1 (LN:=["w"]) (FN:=[]) (fr:=[]) rfl (Zd0 (by rfl)) (Zdo rfl B.b_range (Zac (pv 2) Zad)) (fun cl C fp pins s H=>(ZaA (i:=0) (show ((["w"]:List Str)++([]:List Str)).Nodup by decide +kernel) rfl (Or.inl rfl))) (fun cl C fp pins s H=>ZbR) (fun cl C fp pins s H=>(ZaS Cof_word hr.m (by rfl) (Zac (pv 0) Zad)))) Zad)) (Zau _)))))))
 walk_at"rdx"
 refine Zaq (v:=.int st.many) ht rfl ?_
 walk_at"rdx"
 refine Zaq (v:=.ref l) ht rfl ?_
 walk_at"rdx"
 refine ZbD (SqL.of hl) ?_
 walk_at"rdx"
 refine ZeG (fun h1=>?_) (fun h1=>?_)
 ·walk_at"rdx"
  have e:ZbE Pg st=false:=by
   unfold ZbE
   split
   ·next s e=>exact absurd (by rw[<-hyl,e];rfl) h1
   ·rfl
  have:=k H (Same.refl _)
  rw[e] at this
  exact this
 have hp1:st.paper.length=1:=by lia
 obtain ⟨sf,esf⟩:∃ sf,st.paper=[sf]:=by
  match hh:st.paper,hp1 with
  | [sf],_=>exact ⟨sf,rfl⟩
 rw[esf] at rp hyl
 obtain ⟨y,yr,rfl,ry,rz⟩:=Zaj rp
 obtain rfl:=ZaD rz
 obtain ⟨sf',tf,fa,fx,es,rfl,htf,hfa,rfx⟩:=Zgu (sp:=[sf]) (i:=0) rp rfl
 cases es
 obtain ⟨f0,d,ed⟩:=ok.pf sf esf
 obtain ⟨vs,hv,hnp,hlv,hdv⟩:=pg
 have hlt:sf.1.toNat < vs.length:=by rw[hlv];exact (List.getElem?_eq_some_iff.mp ed).1
 obtain ⟨t2,q2,ys2,e1,g1,g2,_,rr⟩:=hdv _ _ _ ed (getElem?_eq_getElem hlt)
 walk_at"rdx"
 refine Zak hl (Zaw (n:=0) rfl rfl) ?_
 walk_at"rdx"
 refine Zaq (v:=.int sf.1) htf rfl ?_
 refine Zak hv (Zaw (n:=sf.1.toNat) (by lia) (getElem?_eq_getElem hlt)) ?_
 rw[e1]
 walk_at"rdx"
 refine Zaq (v:=.int d.boxes) g1 rfl ?_
 have hbx:ZbT Pg sf.1=d.boxes:=by unfold ZbT;rw[ed];rfl
 walk_at"rdx"
 refine ZeG (fun h2=>?_) (fun h2=>?_)
 ·walk_at"rdx"
  have e:ZbE Pg st=false:=by
   unfold ZbE
   rw[esf]
   simp only
   rw[hbx]
   simp[h2]
  have:=k H (Same.refl _)
  rw[e] at this
  exact this
 obtain ⟨m0,m1⟩:=ok.m
 walk_at"rdx"
 refine Zak hl (Zaw (n:=0) rfl rfl) ?_
 walk_at"rdx"
 refine Zaq (v:=.ref fa) htf rfl ?_
 walk_at"rdx"
 refine ZgH (by lia) (by lia) ?_
 refine ZeR (n:=st.many.toNat) (Za2 (by lia)) (fun i zs σ Hx=>An3 (∃ x1,σ=[x1]) (Same H Hx) (Reps Hx (((List.range i).map fun (w:Nat)=>ofW (w:Int)).map fmD) zs)) ⟨⟨none,rfl⟩,Same.refl _,ZaM⟩ ?_ ?_
 ·rintro i zs σ Hx hi hle hlt' ⟨⟨x1,rfl⟩,s1,rz⟩
  walk_at"rdx"
  refine use1 ⟨_,rfl,fun v H1 rv s2=>?_⟩
  refine ⟨hlt',by simpa using hle,⟨_,rfl⟩,s1.trans s2,?_⟩
  rw[range_succ,map_append,map_append]
  refine (rz.mono s2.ts).append (Zas ?_ ZaM)
  rw[Int.zero_add] at rv
  exact rv
 ·rintro zs σ Hx hzl ⟨⟨x1,rfl⟩,s1,rz⟩ pq hpq
  have s2:=Same.new (o:=.lst zs) hpq
  have e2:upd Hx pq (.lst zs) pq=some (.lst zs):=Zag
  generalize upd Hx pq (.lst zs)=H2 at s2 e2
  walk_at"rdx"
  refine Zjh (SqL.of e2) fun pt hpt=>?_
  have s3:=Same.new (o:=.tup zs) hpt
  have e3:upd H2 pt (.tup zs) pt=some (.tup zs):=Zag
  generalize upd H2 pt (.tup zs)=H3 at s3 e3
  have s13:=(s1.trans s2).trans s3
  obtain ⟨pl1,dp1⟩:=Zh5 sf.2.2
  obtain ⟨pl2,_⟩:=Zh5 (Zdh st.many)
  refine ⟨sf.2.2.map fmD,(Zdh st.many).map fmD,ZbA (s13 _ _ hfa) (rfx.mono s13.ts),ZbA e3 (rz.mono (s2.trans s3).ts),pl1,pl2,by lia,?_⟩
  rw[ZlE]
  have:=k H3 s13
  have e:ZbE Pg st=decide (sf.2.2=Zdh st.many):=by
   unfold ZbE
   rw[esf]
   simp only
   rw[hbx]
   simp[h2]
  rw[e] at this
  exact this
end
end My
end
section
namespace My
open PySem L2
section
variable {P:Program} {w:World} {K:W.Frag} {mg:Str->Option Value} {base:Heap}
variable {C CC:Addr}
def DrAt (H:Hp) (P:List Df) (sts:List Std) (d:Addr):Prop:=∃ kvs:List (List Key×V),H d=some (.dT kvs)/\kvs.length<=sts.length/\∀ pl,valV kvs (key2 pl)=(dAt P sts pl).map fun (k:Nat)=>V.int (k:Int)
inductive Pr_doors (x y:V) (H:Hp) (Q:VK):Prop
 | mk (own P pp q ys sts) (_:x=.ref pp) (_:PgAt own H P pp) (_:y=.ref q) (_:LaneAt H sts q ys) (_:sts.length<=1000) (_:∀ st∈sts,DOk P st) (_:∀ d H',DrAt H' P sts d->H d=none->Same H H'->Q (.ref d) H'):Pr_doors x y H Q
def Zh0:Sp:=sp2 (Pr_doors)
theorem ZeQ {P:List Df} {l:List Std} {st:Std} {pl:Int×Int}:dAt P (l++[st]) pl=(dAt P l pl).or (if ZbE P st && decide (plc st=pl) then some l.length else none):=by
 unfold dAt
 rw[findIdx?_append]
 congr 1
 rw[findIdx?_cons]
 cases ZbE P st && decide (plc st=pl) with
 | true=>simp
 | false=>simp
theorem Zig {a b:Int×Int} (h:key2 a=key2 b):a=b:=by
 unfold key2 at h
 injection h with h1 h2
 injection h2 with h2 _
 injection h1 with h1
 injection h2 with h2
 exact Prod.ext h1 h2
theorem sc_doors_of:FnScope ["program","lane","doors","k","stand"] ["program","lane"] (Zan ZdB):=by walk_at"fs"
theorem ZiS (B:Blt mg) (T_doors_of:TopFn K mg "doors_of" ZdB ["program","lane"]) (Cis_door:Callee P w K mg base "is_door" 2 ["program","stand"] Zfr):Callee P w K mg base "doors_of" 3 ["program","lane"] Zh0:=by
 refine T_doors_of.ok2 sc_doors_of fun f cdv A outer s H v1 v2 Q E hr hh=>?_
 have nd:=sc_doors_of.nd
 have hu1:=ZkS hr
 obtain ⟨own,Pg,pp,q,ys,sts,rfl,pg,rfl,la,hsl,hok,k⟩:=hh
 refine' ZaB [some (.ref pp),some (.ref q),none,none,none] rfl ?hb ?hg
 case hb=>exact (Zaf (ZcS (i:=2) nd rfl (Or.inl rfl) Zh6) (Zaf (Zh4 PassesOwn.never rfl (ZjK (K:=K) rfl (by rfl) B.b_enumerate (Zac (pv 1) Zad)) (ZbQ (K:=K) (n:=2) rfl rfl (ZaF (ZaA (i:=3) nd rfl (Or.inl rfl)) (ZaF (ZaA (i:=4) nd rfl (Or.inl rfl)) Zb5))) (Zal (ZaZ (ZdK (ZaS Cis_door hr.m (by rfl) (Zac (pv 0) (Zac (pv 4) Zad)))) (Zal (Zbm (ZkE hu1 (pv 2) (ZcG (ZjJ (K:=K) rfl) (Zai (k_ix (K:=K) rfl) (Zai (k_ix (K:=K) rfl) (pv 4) Zaa (fun _ _=>rfl)) Zaa (fun _ _=>rfl)) Zdn (Zdm Zaa)) (pv 3) (M2.mk rfl rfl rfl rfl)))) ZaE))) (Zal (Zay (pv 2)))))
 walk_at"rdx"
 intro pd hpd
 have s0:=Same.new (o:=.dT []) hpd
 have e0:upd H pd (.dT []) pd=some (.dT []):=Zag
 generalize upd H pd (.dT [])=H0 at s0 e0
 have hyl:=la.len
 walk_at"rdx"
 refine ieK_of (SqL.of (s0 _ _ la.lst)) ?_
 refine ZkY (xs:=ys) (fun i σ Hx=>An3 (∃ c3 c4,σ=[some (.ref pp),some (.ref q),some (.ref pd),c3,c4]) (Same H Hx) (DrAt Hx Pg (sts.take i) pd)) ⟨⟨none,none,rfl⟩,s0,[],e0,Nat.zero_le _,fun pl=>rfl⟩ (fun i σ Hx _ z_=>by obtain ⟨_,s1,_⟩:=z_;exact SqL.of (s1 _ _ la.lst)) ?_ ?_
 ·rintro i x T σ Hx hx hT ⟨⟨c3,c4,rfl⟩,s1,kvs,hkv,hkl,hval⟩ N hN
  have hi:i < sts.length:=by rw[hyl];exact (List.getElem?_eq_some_iff.mp hx).1
  have est:=getElem?_eq_getElem hi
  generalize sts[i]=st at est
  have sT:=Same.new (o:=.tup [V.int i,x]) hT
  have eT:upd Hx T (.tup [V.int i,x]) T=some (.tup [V.int i,x]):=Zag
  have hkv2:=sT _ _ hkv
  generalize upd Hx T (.tup [V.int i,x])=H1 at sT eT hkv2
  have s11:=s1.trans sT
  have sv:=(la.at' i st x est hx).mono s11
  have hti:(sts.take i).length=i:=by rw[length_take];lia
  have etk:sts.take (i+1)=sts.take i++[st]:=by rw[take_add_one,est];rfl
  rw[hti] at hkl
  have stay:ZbE Pg st=false\/(∃ v,valV kvs (key2 (plc st))=some v)->∀ pl,valV kvs (key2 pl)=(dAt Pg (sts.take (i+1)) pl).map fun (k:Nat)=>V.int (k:Int):=fun hh pl=>by
   rw[etk,ZeQ,hval pl]
   cases hd:dAt Pg (sts.take i) pl with
   | some k=>rfl
   | none =>
    cases hb:ZbE Pg st && decide (plc st=pl) with
    | false=>rfl
    | true =>
     simp only[Bool.and_eq_true,decide_eq_true_eq] at hb
     rcases hh with h|⟨v,hv⟩
     ·rw[hb.1] at h;cases h
     ·rw[hb.2,hval pl,hd] at hv;cases hv
  refine Zb4 eT rfl ?_
  walk_at"rdx"
  refine use2 ⟨own,Pg,pp,st,rfl,pg.by (OSame.of s11) s11.ts (fun x hx=>.inl hx),sv,hok st (mem_of_getElem? est),fun H2 s2=>?_⟩
  have s12:=s11.trans s2
  cases hdr:ZbE Pg st with
  | false =>
   walk_at"rdx"
   refine hN _ _ ⟨⟨_,_,rfl⟩,s12,kvs,s2 _ _ hkv2,?_,stay (.inl hdr)⟩
   rw[length_take]
   lia
  | true =>
   obtain ⟨sf,esf⟩:∃ sf,st.paper=[sf]:=by
    unfold ZbE at hdr
    split at hdr
    ·next s e=>exact ⟨s,e⟩
    ·cases hdr
   obtain ⟨t,l,td,ysP,xsD,rfl,ht,hl,hd,rp,rx⟩:=Zdi (sv.mono s2)
   rw[esf] at rp
   obtain ⟨y,yr,rfl,ry,rz⟩:=Zaj rp
   obtain rfl:=ZaD rz
   obtain ⟨sf',tf,fa,fx,es,rfl,htf,hfa,rfx⟩:=Zgu (sp:=[sf]) (i:=0) rp rfl
   cases es
   have hplc:plc st=(sf.1,sf.2.1):=by unfold plc;rw[esf]
   walk_at"rdx"
   refine ⟨pd,rfl,isD_t (s2 _ _ hkv2),?_⟩
   walk_at"rdx"
   refine Zaq (v:=.ref l) ht rfl ?_
   walk_at"rdx"
   refine Zak hl (Zaw (n:=0) rfl rfl) ?_
   walk_at"rdx"
   refine Zgw htf fun p2 H3 e3 s3=>?_
   have e3:H3 p2=some (.tup ((key2 (plc st)).map kV)):=by
    rw[e3,hplc]
    rfl
   walk_at"rdx"
   refine ⟨kvs,key2 (plc st),p2,s3 _ _ (s2 _ _ hkv2),rfl,e3,Nat.lt_of_le_of_lt (show kvs.length<=1000 by lia) (by rw[sizeLine_eq];decide),fun v hv=>?_,fun hn=>?_⟩
   ·refine hN _ _ ⟨⟨_,_,rfl⟩,s12.trans s3,kvs,s3 _ _ (s2 _ _ hkv2),?_,stay (.inr ⟨v,hv⟩)⟩
    rw[length_take]
    lia
   ·refine hN _ _ ⟨⟨_,_,rfl⟩,fun b o eb=>?_,putK kvs (key2 (plc st)) (V.int i),Zag,?_,fun pl=>?_⟩
    ·rw[Zax (fun z:b=pd=>by rw[z,hpd] at eb;cases eb)]
     exact (s12.trans s3) _ _ eb
    ·have:=Zcs kvs (key2 (plc st)) (V.int i)
     rw[length_take]
     lia
    ·rw[ZhV,etk,ZeQ,hti,hdr]
     have hn':=hn
     rw[hval] at hn'
     by_cases hpl:plc st=pl
     ·subst hpl
      rw[if_pos rfl]
      cases hd2:dAt Pg (sts.take i) (plc st) with
      | some k=>rw[hd2] at hn';cases hn'
      | none=>simp
     ·rw[if_neg (fun z=>hpl (Zig z).symm),hval pl]
      simp[hpl]
 ·rintro σ Hx ⟨⟨c3,c4,rfl⟩,s1,dr⟩
  rw[<-hyl,take_length] at dr
  walk_at"rdx"
  exact k pd _ dr hpd s1
end
end My
end
section
namespace My
open PySem L2
section
variable {P:Program} {w:World} {K:W.Frag} {mg:Str->Option Value} {base:Heap}
def hit (P:List Df) (ns:List Int):Nat->HS
 | 0=>ZeJ P ns
 | i+1=>(hit P ns i).go P
theorem ZlC {P:List Df} {h:HS} {e:En} (hf:h.fin=some e):h.go P=h:=by unfold HS.go;rw[hf]
theorem ZkU {P:List Df} {ns:List Int} (PO:PgOk P) (hn:∀ x∈ns,x.natAbs<=10 ^ 60) (hl:ns.length<=100000):HsOk P (ZeJ P ns):=by
 obtain ⟨d0,ed0⟩:∃ d0,P[(0:Int).toNat]?=some d0:=⟨P[0]'(by have:=PO.1;exact length_pos_iff.mpr this),getElem?_eq_getElem _⟩
 have D0:=PO.2.2 d0 (mem_of_getElem? ed0)
 refine ⟨by simp[ZeJ],by simp[ZeJ],fun fr hfr=>?_,fun i fr e hi=>?_,hn,Int.le_refl _,by simp[ZeJ];lia⟩
 ·obtain rfl:=mem_singleton.mp hfr
  exact ZlD PO (Int.le_refl _) ed0 (by have:=D0.b;simp;lia) fun x hx=>by cases hx
 ·simp[ZeJ] at hi
theorem ZmC {P:List Df} {h:HS}:(h.go P).gone<=h.gone+1:=by
 unfold HS.go
 cases h.fin with
 | some e=>simp only;lia
 | none =>
  simp only
  cases h.frames.getLast? with
  | none=>simp only;lia
  | some fr =>
   simp only
   cases ZbL P fr.1 fr.2.1 with
   | none=>simp only;lia
   | some r =>
    simp only
    cases ZbO h fr r with
    | none=>simp only;lia
    | some e=>simp only;lia
theorem ZeH {P : List Df} {ns : List Int} (PO : PgOk P) (hn : ∀ x ∈ ns, x.natAbs <= 10 ^ 60) (hl : ns.length <= 100000) : ∀ i, HsOk P (hit P ns i) /\ (hit P ns i).gone <= i
  | 0 => ⟨ZkU PO hn hl, Int.le_refl _⟩
  | i + 1 => by
    obtain ⟨a,b⟩:=ZeH PO hn hl i
    refine ⟨a.go PO,?_⟩
    have:=ZmC (P:=P) (h:=hit P ns i)
    show ((hit P ns i).go P).gone<=((i+1:Nat):Int)
    lia
theorem Zii {P:List Df} {ns:List Int} {i:Nat} (PO:PgOk P) (HO:HsOk P (hit P ns i)) (h:(hit P ns (i+1)).fin=none):(hit P ns (i+1)).gone=(hit P ns i).gone+1:=by
 have h':((hit P ns i).go P).fin=none:=h
 show ((hit P ns i).go P).gone=_
 generalize hit P ns i=g at HO h'
 cases hf:g.fin with
 | some e=>rw[ZlC hf,hf] at h';cases h'
 | none =>
  obtain ⟨fs,fr,hfr⟩:∃ fs fr,g.frames=fs++[fr]:=by
   rcases eq_nil_or_concat g.frames with e|⟨l,x,e⟩
   ·exact absurd e HO.ne
   ·exact ⟨l,x,by simpa using e⟩
  obtain ⟨d,f0,ed,hat,hbx⟩:=(HO.fr fr (by rw[hfr];simp)).ex
  have hlt:fr.2.1.toNat < d.rows.length:=by have:=hat.1;have:=hat.2;lia
  have hra:ZbL P fr.1 fr.2.1=some d.rows[fr.2.1.toNat]:=by unfold ZbL;rw[ed];exact getElem?_eq_getElem hlt
  have hgo:=ZmD hf hfr hra
  rw[hgo] at h' ⊢
  cases he:ZbO g fr d.rows[fr.2.1.toNat] with
  | some e=>rw[he] at h';cases h'
  | none=>rfl
theorem ZfZ {P : List Df} {ns : List Int} {i : Nat} {e : En} (h : (hit P ns i).fin = some e) : ∀ j, hit P ns (i + j) = hit P ns i
  | 0 => rfl
  | j + 1 => by
    show (hit P ns (i+j)).go P=_
    rw[ZfZ h j]
    exact ZlC h
structure Ran (P:List Df) (ns:List Int) (m:Int) (i:Nat):Prop where
 le:i<=m.toNat
 gone:(hit P ns i).fin=none->(hit P ns i).gone=i
theorem Ran.zero {P:List Df} {ns:List Int} {m:Int}:Ran P ns m 0:=⟨Nat.zero_le _,fun _=>rfl⟩
theorem Ran.next {P:List Df} {ns:List Int} {m:Int} {i:Nat} (PO:PgOk P) (HO:HsOk P (hit P ns i)) (r:Ran P ns m i) (hf:(hit P ns i).fin=none) (hg:(hit P ns i).gone < m):Ran P ns m (i+1):=by
 have:=r.gone hf
 refine ⟨by lia,fun h=>?_⟩
 rw[Zii PO HO h,this]
 push_cast
 rfl
theorem Ran.done1 {P:List Df} {ns:List Int} {m:Int} {i:Nat} {e:En} (r:Ran P ns m i) (h:(hit P ns i).fin=some e):hit P ns m.toNat=hit P ns i:=by
 have:=ZfZ h (m.toNat - i)
 have hle:=r.le
 rwa [show i+(m.toNat - i)=m.toNat by lia] at this
theorem Ran.done2 {P:List Df} {ns:List Int} {m:Int} {i:Nat} (r:Ran P ns m i) (h:(hit P ns i).fin=none) (hg:¬ (hit P ns i).gone < m):hit P ns m.toNat=hit P ns i:=by
 have:=r.gone h
 have hle:=r.le
 rw[show m.toNat=i by lia]
variable {C CC:Addr}
abbrev LogE:=Str×Nat×Int
def logD (e:LogE):D:=.tup [.str e.1,.int ((e.2.1:Nat):Int),.int e.2.2]
inductive RTo (P:List Df) (sts:List Std) (most:Int) (bs:List Bool) (ns:List Int):HS->List LogE->Nat->Prop
 | init:RTo P sts most bs ns (hit P ns 0) [] 0
 | plain {h l n fs fr} (r:RTo P sts most bs ns h l n) (f:h.fin=none) (g:h.gone < most) (e:h.frames=fs++[fr]) (d:dAt P sts (fr.1,fr.2.1)=none\/¬ h.frames.length<=17):RTo P sts most bs ns (h.go P) l n
 | no {h l n fs fr k} (r:RTo P sts most bs ns h l n) (f:h.fin=none) (g:h.gone < most) (e:h.frames=fs++[fr]) (d:dAt P sts (fr.1,fr.2.1)=some k) (room:h.frames.length<=17) (b:bs.getD n false=false):RTo P sts most bs ns (h.go P) l (n+1)
 | over {h l n fs fr k h' why k' n'} (r:RTo P sts most bs ns h l n) (f:h.fin=none) (g:h.gone < most) (e:h.frames=fs++[fr]) (d:dAt P sts (fr.1,fr.2.1)=some k) (room:h.frames.length<=17) (b:bs.getD n false=true) (lr:LRun P sts most bs h k fr.2.2 (n+1) h' why k' n'):RTo P sts most bs ns h' (l++[((Str.ofString "over",k,h.gone):LogE),(why,k',h'.gone)]) n'
structure LSim (P:List Df) (sts:List Std) (most:Int) (ns:List Int) (W:Nat->List Int->HS->Prop):Prop where
 into:∀ i fs fr k,(hit P ns i).fin=none->(hit P ns i).gone < most->(hit P ns i).frames=fs++[fr]->(hit P ns i).frames.length<=17->dAt P sts (fr.1,fr.2.1)=some k->W k fr.2.2 (hit P ns i)
 out:∀ k ws h st,W k ws h->sts[k]?=some st->∃ j,ledH h st ws=hit P ns j/\Ran P ns most j
theorem LRun.ends {P:List Df} {sts:List Std} {most:Int} {bs:List Bool} {W:Nat->List Int->HS->Prop} {μ:Nat->Nat} {M:Nat} (G:LGood P sts most W μ M) {h h':HS} {k k' n n':Nat} {ws:List Int} {why:Str} (r:LRun P sts most bs h k ws n h' why k' n') (w:W k ws h):(∃ h2 ws2 st2,W k' ws2 h2/\sts[k']?=some st2/\h'=ledH h2 st2 ws2)/\n < n':=by
 induction r with
 | called e b=>exact ⟨⟨_,_,_,w,e,rfl⟩,Nat.lt_succ_self _⟩
 | left e b wh=>exact ⟨⟨_,_,_,w,e,rfl⟩,Nat.lt_succ_self _⟩
 | on e b ee wh r ih =>
  obtain ⟨st,e',_,_,hs⟩:=G.st _ _ _ w
  rw[e] at e'
  cases e'
  obtain ⟨a,b⟩:=ih (hs _ ee (by rw[<-ee];exact wh)).2.2.1
  exact ⟨a,by lia⟩
theorem Zls {c:TT} {tb te:TS} {D:Ends} {σ:St} {H:Hp} (Y N':Hp->Prop) (hc:∀ R:Bool->Hp->Prop,(∀ H1,Y H1->R true H1)->(∀ H1,N' H1->R false H1)->c σ H R) (hy:∀ H1,Y H1->tb D σ H1) (hn:∀ H1,N' H1->te D σ H1):tIfS c tb te D σ H:=Zkx (hc _ (fun H1 h=>by rw[if_pos rfl];exact hy H1 h) (fun H1 h=>by rw[if_neg Bool.false_ne_true];exact hn H1 h))
structure RI (C CC:Addr) (P:List Df) (sts:List Std) (bs:List Bool) (H:Hp) (p dx pa pn pl pc dxc qb d lg:Addr) (Hx:Hp) (h:HS) (l:List LogE) (n:Nat) (pf:Addr) (fz:List FZ) (ve:V) (vs:List V):Prop where
 a:HA C p dx pa pf pn pl fz Hx P h ve
 pg:PgAt (lg::pc::ownA p pf pn pl fz) Hx P pa
 ch:ChAt CC pc dxc qb Hx bs n
 dr:DrAt Hx P sts d
 lst:Hx lg=some (.lst vs)
 rp:Reps Hx (l.map logD) vs
 sm:Same H Hx
 fr:∀ x∈pc::ownA p pf pn pl fz,H x=none
 npc:pc∉ownA p pf pn pl fz
 nlg:lg∉pc::ownA p pf pn pl fz
 ndr:d∉pc::ownA p pf pn pl fz
 lg0:H lg=none/\H d=none/\lg≠d
 qb0:H qb≠none
 few:l.length<=2 * n
section
variable {P:List Df} {sts:List Std} {bs:List Bool} {H:Hp} {p dx pa pn pl pc dxc qb d lg:Addr} {Hx H':Hp} {h h':HS} {l:List LogE} {n n':Nat} {pf pf':Addr} {fz fz':List FZ} {ve ve':V} {vs:List V}
theorem DrAt.of {H':Hp} (h:DrAt Hx P sts d) (s:∀ o,Hx d=some o->H' d=some o):DrAt H' P sts d:=by
 obtain ⟨kvs,a,b⟩:=h
 exact ⟨kvs,s _ a,b⟩
theorem RI.mono (r:RI C CC P sts bs H p dx pa pn pl pc dxc qb d lg Hx h l n pf fz ve vs) (s:Same Hx H'):RI C CC P sts bs H p dx pa pn pl pc dxc qb d lg H' h l n pf fz ve vs :=
 ⟨r.a.mono s,r.pg.by (OSame.of s) s.ts (fun x hx=>.inl hx),⟨s _ _ r.ch.1,s _ _ r.ch.2⟩,r.dr.of fun o e=>s _ _ e,s _ _ r.lst,r.rp.mono s.ts,r.sm.trans s,r.fr,r.npc,r.nlg,r.ndr,r.lg0,r.qb0,r.few⟩
theorem RI.ask (r:RI C CC P sts bs H p dx pa pn pl pc dxc qb d lg Hx h l n pf fz ve vs):RI C CC P sts bs H p dx pa pn pl pc dxc qb d lg (upd Hx pc (.ins CC dxc (Zbw (.ref qb) (.int (n+1:Nat))))) h l (n+1) pf fz ve vs:=by
 have nt:∀ xs,Hx pc≠some (.tup xs):=fun xs e=>by rw[r.ch.1] at e;cases e
 have oc:OSame [pc] Hx (upd Hx pc (.ins CC dxc (Zbw (.ref qb) (.int (n+1:Nat))))):=OSame.wr mem_cons_self
 have ts:=oc.ts fun x hx xs=>by rw[mem_singleton.mp hx];exact nt xs
 obtain ⟨a2,_⟩:=HA.out (pc:=pc) r.a oc r.npc nt (r.pg.by (OSame.refl _ _) (fun _ _ e=>e) fun x hx=>.inl (mem_cons_of_mem _ hx))
 have pg2:PgAt (lg::pc::ownA p pf pn pl fz) (upd Hx pc (.ins CC dxc (Zbw (.ref qb) (.int (n+1:Nat))))) P pa:=r.pg.by (fun b u nb e=>oc b u (fun z=>nb (by rw[mem_singleton.mp z];exact mem_cons_of_mem _ mem_cons_self)) e) ts fun x hx=>.inl hx
 have ne:∀ {b:Addr},b≠pc->∀ o,Hx b=some o->upd Hx pc (.ins CC dxc (Zbw (.ref qb) (.int (n+1:Nat)))) b=some o:=fun nb o e=>by rw[Zax nb];exact e
 have nqb:qb≠pc:=fun z=>r.qb0 (by rw[z];exact r.fr pc mem_cons_self)
 refine ⟨a2,pg2,⟨Zag,ne nqb _ r.ch.2⟩,r.dr.of (ne fun z=>r.ndr (by rw[z];exact mem_cons_self)),ne (fun z=>r.nlg (by rw[z];exact mem_cons_self)) _ r.lst,r.rp.mono ts,fun b o e=>ne (fun z=>by rw[z,r.fr pc mem_cons_self] at e;cases e) _ (r.sm _ _ e),r.fr,r.npc,r.nlg,r.ndr,r.lg0,r.qb0,by have:=r.few;lia⟩
theorem RI.goes (r:RI C CC P sts bs H p dx pa pn pl pc dxc qb d lg Hx h l n pf fz ve vs) (a:HA C p dx pa pf' pn pl fz' H' P h' ve') (ch:ChAt CC pc dxc qb H' bs n') (few:l.length<=2 * n') (o:OSame (pc::ownA p pf pn pl fz) Hx H') (nw:∀ x∈ownA p pf' pn pl fz',x∈ownA p pf pn pl fz\/Hx x=none):RI C CC P sts bs H p dx pa pn pl pc dxc qb d lg H' h' l n' pf' fz' ve' vs:=by
 have nt:ZeA (pc::ownA p pf pn pl fz) Hx:=fun x hx xs=>by
  rcases mem_cons.mp hx with e|hx
  ·rw[e,r.ch.1];exact fun z=>by cases z
  ·exact r.a.notup x hx xs
 have ts:=o.ts nt
 have out:∀ {x:Addr},x∉pc::ownA p pf pn pl fz->Hx x≠none->x∉pc::ownA p pf' pn pl fz':=fun {x} nx hx m=>by
  rcases mem_cons.mp m with e|m
  ·exact nx (by rw[e];exact mem_cons_self)
  ·rcases nw x m with z|z
   ·exact nx (mem_cons_of_mem _ z)
   ·exact hx z
 refine ⟨a,r.pg.by (fun b u nb e=>o b u (fun z=>nb (mem_cons_of_mem _ z)) e) ts fun x hx=>?_,ch,r.dr.of fun u e=>o _ _ r.ndr e,o _ _ r.nlg r.lst,r.rp.mono ts,fun b u e=>o b u (fun z=>by rw[r.fr b z] at e;cases e) (r.sm _ _ e),fun x hx=>?_,fun m=>?_,out r.nlg (by rw[r.lst];exact fun z=>by cases z),?_,r.lg0,r.qb0,few⟩
 ·rcases mem_cons.mp hx with e|hx
  ·exact .inl (by rw[e];exact mem_cons_self)
  ·rcases mem_cons.mp hx with e|hx
   ·exact .inl (by rw[e];exact mem_cons_of_mem _ mem_cons_self)
   ·rcases nw x hx with z|z
    ·exact .inl (mem_cons_of_mem _ (mem_cons_of_mem _ z))
    ·exact .inr z
 ·rcases mem_cons.mp hx with e|hx
  ·rw[e];exact r.fr pc mem_cons_self
  ·rcases nw x hx with z|z
   ·exact r.fr x (mem_cons_of_mem _ z)
   ·cases hz:H x with
    | none=>rfl
    | some u=>rw[r.sm _ _ hz] at z;cases z
 ·rcases nw pc m with z|z
  ·exact r.npc z
  ·rw[r.ch.1] at z;cases z
 ·obtain ⟨kvs,hk,_⟩:=r.dr
  exact out r.ndr (by rw[hk];exact fun z=>by cases z)
theorem RI.noted {e:LogE} {v:V} (r:RI C CC P sts bs H p dx pa pn pl pc dxc qb d lg Hx h l n pf fz ve vs) (rv:Rep Hx (logD e) v) (few:l.length+1<=2 * n):RI C CC P sts bs H p dx pa pn pl pc dxc qb d lg (upd Hx lg (.lst (vs++[v]))) h (l++[e]) n pf fz ve (vs++[v]):=by
 have nt:∀ xs,Hx lg≠some (.tup xs):=fun xs e=>by rw[r.lst] at e;cases e
 have oc:OSame [lg] Hx (upd Hx lg (.lst (vs++[v]))):=OSame.wr mem_cons_self
 have ts:=oc.ts fun x hx xs=>by rw[mem_singleton.mp hx];exact nt xs
 have ne:∀ {b:Addr},b≠lg->∀ o,Hx b=some o->upd Hx lg (.lst (vs++[v])) b=some o:=fun nb o e=>by rw[Zax nb];exact e
 have nown:lg∉ownA p pf pn pl fz:=fun z=>r.nlg (mem_cons_of_mem _ z)
 obtain ⟨a2,_⟩:=HA.out (pc:=lg) r.a oc nown nt (r.pg.by (OSame.refl _ _) (fun _ _ e=>e) fun x hx=>by
  rcases mem_cons.mp hx with z|hx
  ·exact .inl (by rw[z];exact mem_cons_self)
  ·exact .inl (mem_cons_of_mem _ (mem_cons_of_mem _ hx)))
 have nqb:qb≠lg:=fun z=>r.qb0 (by rw[z];exact r.lg0.1)
 refine ⟨a2,r.pg.by (fun b u nb e=>oc b u (fun z=>nb (by rw[mem_singleton.mp z];exact mem_cons_self)) e) ts fun x hx=>.inl hx,⟨ne (fun z=>r.nlg (by rw[z];exact mem_cons_self)) _ r.ch.1,ne nqb _ r.ch.2⟩,r.dr.of (ne r.lg0.2.2.symm),Zag,?_,fun b o e=>ne (fun z=>by rw[z,r.lg0.1] at e;cases e) _ (r.sm _ _ e),r.fr,r.npc,r.nlg,r.ndr,r.lg0,r.qb0,by rw[length_append];exact few⟩
 rw[map_append]
 exact (r.rp.mono ts).append (Zas (rv.mono ts) ZaM)
end
inductive Pr_ridden (C CC:Addr) (x y z u v:V) (H:Hp) (Q:VK):Prop
 | mk (P pp q ys sts qi ns most qb bs W μ M) (_:x=.ref pp) (_:PgAt [] H P pp) (_:PgOk P) (_:y=.ref q) (_:LaneAt H sts q ys) (_:sts.length<=1000) (_:∀ st∈sts,DOk P st) (_:z=.ref qi) (_:H qi=some (.lst ((ns:List Int).map V.int))) (_:ns.length<=100000) (_:∀ x∈ns,x.natAbs<=10 ^ 60) (_:u=.int most) (_:most<=900) (_:v=.ref qb) (_:H qb=some (.lst ((bs:List Bool).map V.bl))) (_:bs.length<=100000) (_:LGood P sts most W μ M) (_:LSim P sts most ns W) (_:∀ h l n t p dx pa pf pn pl fz ve lg vs H',RTo P sts most bs ns h l n->h=hit P ns most.toNat->¬ (h.fin=none/\h.gone < most)->HA C p dx pa pf pn pl fz H' P h ve->H' lg=some (.lst vs)->Reps H' (l.map logD) vs->H' t=some (.tup [.ref p,.ref lg])->Same H H'->(∀ x∈ownA p pf pn pl fz,H x=none)->lg∉ownA p pf pn pl fz->H lg=none->Q (.ref t) H'):Pr_ridden C CC x y z u v H Q
def Zdj (C CC:Addr):Sp:=sp5 (Pr_ridden C CC)
theorem sc_ridden:FnScope ["program","lane","inputs","most","when","hand","chances","doors","log","k"] ["program","lane","inputs","most","when"] (Zan ZeM):=by walk_at"fs"
theorem Zld (B:Blt mg) (HHand:CHand K C) (HChances:CChances K CC) (T_ridden:TopFn K mg "ridden" ZeM ["program","lane","inputs","most","when"]) (NHand:CCal P w K mg base C "Hand" 2 ["self","program","inputs"] (Zi6 C)) (NChances:CCal P w K mg base CC "Chances" 1 ["self","when"] (Zgp CC)) (Cdoors_of:Callee P w K mg base "doors_of" 3 ["program","lane"] Zh0) (Cplace_of:Callee P w K mg base "place_of" 1 ["hand"] (ZhZ C)) (Chas_room:Callee P w K mg base "has_room" 1 ["hand"] (Zi5 C)) (MChances_ask:MCal P w K mg base CC "ask" 1 ["self"] (Zjb CC)) (Cgo_lane:Callee P w K mg base "go_lane" 5 ["hand","lane","k","most","chances"] (Zfs C CC)) (MHand_go:MCal P w K mg base C "go" 4 ["self"] (sp_go C)):Callee P w K mg base "ridden" 6 ["program","lane","inputs","most","when"] (Zdj C CC):=by
 refine T_ridden.ok5 sc_ridden fun f cdv A outer s H v1 v2 v3 v4 v5 Q E hr hh=>?_
 have nd:=sc_ridden.nd
 have hu1:=ZkS hr
 obtain ⟨Pg,pp,q,ys,sts,qi,ns,most,qb,bs,W,μ,M,rfl,pg,PO,rfl,la,hsl,hdok,rfl,hqi,hl,hn,rfl,hm,rfl,hqb,hbl,G,S,k⟩:=hh
 refine' ZaB [some (.ref pp),some (.ref q),some (.ref qi),some (.int most),some (.ref qb),none,none,none,none,none] rfl ?hb ?hg
 case hb=>exact (Zaf (Zbl (i:=5) nd rfl (Or.inl rfl) (Zlv NHand hr.m (by rfl) (Zac (pv 0) (Zac (pv 2) Zad)))) (Zaf (Zbl (i:=6) nd rfl (Or.inl rfl) (Zlv NChances hr.m (by rfl) (Zac (pv 4) Zad))) (Zaf (Zbl (i:=7) nd rfl (Or.inl rfl) (ZaS Cdoors_of hr.m (by rfl) (Zac (pv 0) (Zac (pv 1) Zad)))) (Zaf (ZcM (i:=8) nd rfl (Or.inl rfl) (ZaH Zad)) (Zaf (Zeh PassesOwn.never (PW.pt (Zbk (Zar Zeu (Zbj (K:=K) rfl (pv 5) rfl) Zcr (Zau _)) (Zba (Zar ZhA (Zbj (K:=K) rfl (pv 5) rfl) (pv 3) (Zau _))))) (Zaf (Zbl (i:=9) nd rfl (Or.inl rfl) (ZkF hu1 (pv 7) (ZaS Cplace_of hr.m (by rfl) (Zac (pv 5) Zad)) (M1.mk rfl rfl rfl rfl))) (Zal (ZaZ (PW.pt (Zbk (Zar Zh9 (pv 9) Zcr (Zau _)) (Zbk (ZdK (ZaS Chas_room hr.m (by rfl) (Zac (pv 5) Zad))) (Zba (ZdK (Zmd MChances_ask HChances.cl hr.m (pv 6))))))) (Zaf (Zbm (k_bm (K:=K) rfl PySem.F.plainAttrs_list PySem.F.slot_list_append PySem.F.type_list_append ZbN (pv 8) (Zam (Zap (Zab Zat (Zac (pv 9) (Zbc (Zbj (K:=K) rfl (pv 5) rfl) Zad)))) Zad))) (Zal (Zbm (k_bm (K:=K) rfl PySem.F.plainAttrs_list PySem.F.slot_list_append PySem.F.type_list_append ZbN (pv 8) (Za4 (ZaS Cgo_lane hr.m (by rfl) (Zac (pv 5) (Zac (pv 1) (Zac (pv 9) (Zac (pv 3) (Zac (pv 6) Zad)))))) Zad))))) (Zal (Zbm (Zmd MHand_go HHand.cl hr.m (pv 5)))))))) (Zal (Zay (Zap (Zac (pv 5) (Zac (pv 8) Zad))))))))))
 have HOA:=fun i=>ZeH PO hn hl i
 walk_at"rdx"
 intro p dx hp hdx hne
 have s2:Same H (upd (upd H dx (.own p)) p (.ins C dx [])):=(Same.new (o:=.own p) hdx).trans (Same.new (by rw[Zax (fun z=>hne z.symm)];exact hp))
 have hp2:upd (upd H dx (.own p)) p (.ins C dx []) p=some (.ins C dx []):=Zag
 generalize upd (upd H dx (HO.own p)) p (HO.ins C dx [])=H2 at s2 hp2
 refine use3 ⟨p,dx,Pg,pp,qi,ns,rfl,rfl,rfl,hp2,pg.by (OSame.of s2) s2.ts (fun x hx=>by cases hx),PO,s2 _ _ hqi,hl,fun pa pf pn pl fz H3 a3 o3 f3 g3=>⟨rfl,?_⟩⟩
 have s3:Same H H3:=fun a o e=>o3 a o (fun m=>by rw[mem_singleton.mp m,hp] at e;cases e) (s2 _ _ e)
 have n3:∀ x∈ownA p pf pn pl fz,H x=none:=fun x hx=>by
  rcases f3 x hx with h|h
  ·rw[h];exact hp
  ·exact s2.free h
 walk_at"rdx"
 intro pc dxc hpc hdxc hnec
 have s4:Same H3 (upd (upd H3 dxc (.own pc)) pc (.ins CC dxc [])):=(Same.new (o:=.own pc) hdxc).trans (Same.new (by rw[Zax (fun z=>hnec z.symm)];exact hpc))
 have hp4:upd (upd H3 dxc (.own pc)) pc (.ins CC dxc []) pc=some (.ins CC dxc []):=Zag
 generalize upd (upd H3 dxc (HO.own pc)) pc (HO.ins CC dxc [])=H4 at s4 hp4
 have npc:pc∉ownA p pf pn pl fz:=fun z=>by
  obtain ⟨o,ho⟩:=HA.live a3 z
  rw[ho] at hpc;cases hpc
 have hpcH:H pc=none:=s3.free hpc
 refine use2 ⟨pc,dxc,qb,rfl,rfl,hp4,⟨rfl,?_⟩⟩
 have pg4:PgAt (pc::ownA p pf pn pl fz) H4 Pg pa:=a3.pg.by (OSame.of s4) s4.ts fun x hx=>by
  rcases mem_cons.mp hx with e|hx
  ·rw[e];exact .inr hpc
  ·exact .inl hx
 have oc:OSame [pc] H4 (upd H4 pc (.ins CC dxc (Zbw (.ref qb) (.int 0)))):=OSame.wr mem_cons_self
 obtain ⟨a5,pg5⟩:=HA.out (pc:=pc) (a3.mono s4) oc npc (fun xs e=>by rw[hp4] at e;cases e) pg4
 have s5:Same H (upd H4 pc (.ins CC dxc (Zbw (.ref qb) (.int 0)))):=fun b o e=>by
  rw[Zax (fun z:b=pc=>by rw[z,hpcH] at e;cases e)]
  exact s4 _ _ (s3 _ _ e)
 have c5:upd H4 pc (.ins CC dxc (Zbw (.ref qb) (.int 0))) pc=some (.ins CC dxc (Zbw (.ref qb) (.int 0))):=Zag
 generalize upd H4 pc (.ins CC dxc (Zbw (.ref qb) (.int 0)))=H5 at oc a5 pg5 s5 c5
 walk_at"rdx"
 refine use2 ⟨[],Pg,pp,q,ys,sts,rfl,pg.by (OSame.of s5) s5.ts (fun x hx=>by cases hx),rfl,la.mono s5,hsl,hdok,fun d H6 dr hd6 s6=>?_⟩
 walk_at"rdx"
 walk_at"mk";intro lg hlg
 have s7:=Same.new (o:=.lst []) hlg
 have e7:upd H6 lg (.lst []) lg=some (.lst []):=Zag
 generalize upd H6 lg (.lst [])=H7 at s7 e7
 have s67:=s6.trans s7
 have out5:∀ {x:Addr},H5 x=none->x∉pc::ownA p pf pn pl fz:=fun {x} hx m=>by
  rcases mem_cons.mp m with e|m
  ·rw[e,c5] at hx;cases hx
  ·obtain ⟨o,ho⟩:=HA.live a5 m
   rw[ho] at hx;cases hx
 have hlg5:H5 lg=none:=s6.free hlg
 have R0:RI C CC Pg sts bs H p dx pa pn pl pc dxc qb d lg H7 (hit Pg ns 0) [] 0 pf fz .non []:=by
  refine ⟨a5.mono s67,pg5.by (OSame.of s67) s67.ts fun x hx=>?_,⟨s67 _ _ c5,s67 _ _ (s5 _ _ hqb)⟩,dr.of fun o e=>s7 _ _ e,e7,ZaM,s5.trans s67,fun x hx=>?_,npc,out5 hlg5,out5 hd6,⟨s5.free hlg5,s5.free hd6,fun z=>?_⟩,(by rw[hqb];exact (fun z=>by cases z)),Nat.zero_le _⟩
  ·rcases mem_cons.mp hx with e|hx
   ·rw[e];exact .inr hlg5
   ·exact .inl hx
  ·rcases mem_cons.mp hx with e|hx
   ·rw[e];exact hpcH
   ·exact n3 x hx
  ·obtain ⟨kvs,hk,_⟩:=dr
   rw[z,hk] at hlg;cases hlg
 clear s67 out5 oc a5 pg5 c5 pg4 a3 o3 f3 g3 e7 dr
 walk_at"rdx"
 refine ⟨(fun mm σ Hx=>Ex8 fun i l n pf fz ve vs c9=>An5 (mm=(bs.length - n) * (most.toNat+1)+(most.toNat - i)) (σ=[some (.ref pp),some (.ref q),some (.ref qi),some (.int most),some (.ref qb),some (.ref p),some (.ref pc),some (.ref d),some (.ref lg),c9]) (Ran Pg ns most i) (RI C CC Pg sts bs H p dx pa pn pl pc dxc qb d lg Hx (hit Pg ns i) l n pf fz ve vs) (RTo Pg sts most bs ns (hit Pg ns i) l n)),⟨_,0,[],0,pf,fz,.non,[],none,rfl,rfl,Ran.zero,R0,.init⟩,?_⟩
 rintro mm σ Hx ⟨i,l,n,pf,fz,ve,vs,c9,rfl,rfl,rn,R,rt⟩
 obtain ⟨HOi,gi⟩:=HOA i
 have fin:¬ ((hit Pg ns i).fin=none/\(hit Pg ns i).gone < most)->hit Pg ns most.toNat=hit Pg ns i->(tRet (tTup (Zae (tVar 5) (Zae (tVar 8) tNil)))) { nx:=fun _ H'=>Q .non H',rt:=Q } [some (.ref pp),some (.ref q),some (.ref qi),some (.int most),some (.ref qb),some (.ref p),some (.ref pc),some (.ref d),some (.ref lg),c9] Hx:=by
  intro hstop hi
  walk_at"rdx"
  walk_at"mk";intro t ht
  have s8:=Same.new (o:=.tup [V.ref p,V.ref lg]) ht
  have R8:=R.mono s8
  exact k _ l n t p dx pa pf pn pl fz ve lg vs _ rt hi.symm hstop R8.a R8.lst R8.rp Zag R8.sm (fun x hx=>R8.fr x (mem_cons_of_mem _ hx)) (fun z=>R8.nlg (mem_cons_of_mem _ z)) R8.lg0.1
 walk_at"rdx"
 refine ZaU R.a.obj HHand.cl HHand.n_end Zij ?_
 walk_at"rdx"
 have en:=R.a.en
 cases hf:(hit Pg ns i).fin with
 | some e =>
  rw[hf] at en
  refine Zao (ZgN en) ?_
  refine iteF ?_
  exact fin (fun z=>by rw[hf] at z;cases z.1) (rn.done1 hf)
 | none =>
  rw[hf] at en
  obtain rfl:=ZgO en
  refine ZaJ rfl ?_
  walk_at"rdx"
  refine ZaU R.a.obj HHand.cl HHand.n_gone ZdV ?_
  walk_at"rdx"
  refine Zbr (fun hg=>?_) (fun hg=>fin (fun z=>hg z.2) (rn.done2 hf hg))
  refine ZcQ fun N hN=>?_
  have hgi:=rn.gone hf
  have rn':=rn.next PO HOi hf hg
  have hlt:i < most.toNat:=by lia
  obtain ⟨fz0,z,hz⟩:∃ fz0 z,fz=fz0++[z]:=by
   rcases eq_nil_or_concat fz with e|⟨l,x,e⟩
   ·have:=R.a.fr
    rw[e] at this
    exact absurd this.symm HOi.ne
   ·exact ⟨l,x,by simpa using e⟩
  subst hz
  have hfr:(hit Pg ns i).frames=fz0.map (·.2)++[z.2]:=by rw[<-R.a.fr];simp
  obtain ⟨kvs,hkv,hkl,hval⟩:=R.dr
  walk_at"rdx"
  refine ⟨d,rfl,isD_t hkv,?_⟩
  walk_at"rdx"
  refine use1 ⟨p,dx,pa,pf,pn,pl,fz0,z,Pg,hit Pg ns i,.non,rfl,R.a,fun t ht=>?_⟩
  have s9:=Same.new (o:=.tup [V.int z.2.1,V.int z.2.2.1]) ht
  have e9:upd Hx t (.tup [V.int z.2.1,V.int z.2.2.1]) t=some (.tup ((key2 (z.2.1,z.2.2.1)).map kV)):=Zag
  have R9:=R.mono s9
  have hkv9:=s9 _ _ hkv
  generalize upd Hx t (.tup [V.int z.2.1,V.int z.2.2.1])=H9 at s9 e9 R9 hkv9
  refine ⟨_,DGet.t hkv9 e9,?_⟩
  rw[hval]
  have hmul:∀ {n':Nat},n<=n'->(bs.length - n') * (most.toNat+1)+(most.toNat - (i+1)) < (bs.length - n) * (most.toNat+1)+(most.toNat - i):=fun {n'} h=>by
   have:(bs.length - n') * (most.toNat+1)<=(bs.length - n) * (most.toNat+1):=Nat.mul_le_mul_right _ (by lia)
   lia
  refine ZaC ?_
  dsimp only
  refine Zls (fun H1=>∃ k,An4 (dAt Pg sts (z.2.1,z.2.2.1)=some k) ((hit Pg ns i).frames.length<=17) (bs.getD n false=true) (H1=upd H9 pc (.ins CC dxc (Zbw (.ref qb) (.int (n+1:Nat)))))) (fun H1=>∃ n',An3 (n<=n') (RI C CC Pg sts bs H p dx pa pn pl pc dxc qb d lg H1 (hit Pg ns i) l n' pf (fz0++[z]) .non vs) (RTo Pg sts most bs ns (hit Pg ns (i+1)) l n')) (fun Rr hY hNo=>?_) ?_ ?_
  ·cases hkd:dAt Pg sts (z.2.1,z.2.2.1) with
   | none =>
    walk_at"rdx"
    refine ZeG (fun w=>absurd rfl w) (fun _=>?_)
    exact hNo _ ⟨n,Nat.le_refl _,R9,.plain rt hf hg hfr (.inl hkd)⟩
   | some k1 =>
    walk_at"rdx"
    refine ZeG (fun _=>?_) (fun w=>by cases w)
    walk_at"rdx"
    refine use1 ⟨p,dx,pa,pf,pn,pl,_,Pg,hit Pg ns i,.non,rfl,R9.a,?_⟩
    by_cases hroom:(hit Pg ns i).frames.length<=17
    ·rw[decide_eq_true hroom]
     walk_at"rdx"
     refine ZdS R9.ch.1 ZlJ ?_
     walk_at"rdx"
     refine use1 ⟨pc,dxc,qb,bs,n,rfl,R9.ch,?_⟩
     cases hb:bs.getD n false with
     | true =>
      walk_at"rdx"
      exact hY _ ⟨k1,hkd,hroom,hb,rfl⟩
     | false =>
      walk_at"rdx"
      exact hNo _ ⟨n+1,Nat.le_succ _,R9.ask,.no rt hf hg hfr hkd hroom hb⟩
    ·rw[decide_eq_false hroom]
     walk_at"rdx"
     exact hNo _ ⟨n,Nat.le_refl _,R9,.plain rt hf hg hfr (.inr hroom)⟩
  ·rintro H1 ⟨k1,hkd,hroom,hb,rfl⟩
   have R1:=R9.ask
   generalize upd H9 pc (.ins CC dxc (Zbw (.ref qb) (.int (n+1:Nat))))=H1 at R1
   have hnb:n < bs.length:=by
    by_cases hh:n < bs.length
    ·exact hh
    ·rw[getD_eq_getElem?_getD,getElem?_eq_none (by lia)] at hb;cases hb
   have hfew:=R9.few
   rw[hkd]
   dsimp only [Option.map_some,Option.getD_some]
   walk_at"rdx"
   refine ⟨.inl ⟨rfl,_,SqL.of R1.lst⟩,?_⟩
   walk_at"rdx"
   refine ZaU R1.a.obj HHand.cl HHand.n_gone ZdV ?_
   walk_at"rdx"
   walk_at"mk";intro t2 ht2
   have s2':=Same.new (o:=.tup [V.str "over",V.int ((k1:Nat):Int),V.int (hit Pg ns i).gone]) ht2
   have e2':Rep (upd H1 t2 (.tup [V.str "over",V.int ((k1:Nat):Int),V.int (hit Pg ns i).gone])) (logD (Str.ofString "over",k1,(hit Pg ns i).gone)) (.ref t2):=ZbA Zag (Zas (by rw[Rep]) (Zas ZaR (Zas ZaR ZaM)))
   have R2:=R1.mono s2'
   generalize upd H1 t2 (.tup [V.str "over",V.int ((k1:Nat):Int),V.int (hit Pg ns i).gone])=H2' at s2' e2' R2
   have hvl:vs.length=l.length:=by have:=R2.rp.length;rw[length_map] at this;exact this.symm
   walk_at"rdx"
   refine ZbM R2.lst (Nat.lt_of_le_of_lt (show vs.length<=1000000 by lia) (by rw[sizeLine_eq];decide)) ?_
   have R3:=R2.noted e2' (by lia)
   generalize upd H2' lg (.lst (vs++[V.ref t2]))=H3' at R3
   walk_at"rdx"
   refine ⟨.inl ⟨rfl,_,SqL.of R3.lst⟩,?_⟩
   walk_at"rdx"
   have hfl:fz0.length<=1000:=by
    have:=HOi.few
    rw[hfr] at this
    simp at this
    lia
   have wk:=S.into i _ _ k1 hf hg hfr hroom hkd
   refine use5 ⟨p,dx,pa,pf,pn,pl,fz0,z,Pg,hit Pg ns i,.non,q,ys,sts,k1,most,pc,dxc,qb,bs,n+1,H,W,μ,M,rfl,R3.a,R3.pg.by (OSame.refl _ _) (fun _ _ e=>e) (fun x hx=>.inl (mem_cons_of_mem _ hx)),rfl,la,rfl,rfl,rfl,R3.ch,R3.qb0,R3.sm,R3.fr,R3.npc,G,wk,hfl,fun fz' pf' h' why k' n' t3 H4' lr a4 pg4 ch4 o4 nw4 npc4 ht3=>?_⟩
   obtain ⟨⟨h2,ws2,st2,w2,es2,rfl⟩,hnn⟩:=LRun.ends G lr wk
   obtain ⟨j,hj,rnj⟩:=S.out _ _ _ _ w2 es2
   have R4:=R3.goes a4 ch4 (by rw[length_append];simp;lia) o4 nw4
   have e4':Rep H4' (logD (why,k',(ledH h2 st2 ws2).gone)) (.ref t3):=ZbA ht3 (Zas (by rw[Rep]) (Zas ZaR (Zas ZaR ZaM)))
   walk_at"rdx"
   refine ZbM R4.lst (Nat.lt_of_le_of_lt (show (vs++[V.ref t2]).length<=1000000 by rw[length_append];simp;lia) (by rw[sizeLine_eq];decide)) ?_
   have R5:=R4.noted e4' (by rw[length_append];simp;lia)
   have rt5:=RTo.over rt hf hg hfr hkd hroom hb lr
   rw[hj] at R5 rt5
   walk_at"rdx"
   refine hN _ _ ⟨_,?_,j,_,n',pf',fz',.non,_,_,rfl,rfl,rnj,R5,?_⟩
   ·have:(bs.length - n') * (most.toNat+1)+(most.toNat+1)<=(bs.length - n) * (most.toNat+1):=by
     rw[<-Nat.succ_mul]
     exact Nat.mul_le_mul_right _ (by lia)
    lia
   ·rw[append_assoc]
    exact rt5
  ·rintro H1 ⟨n',hn',R1,rt1⟩
   walk_at"rdx"
   refine ZdS R1.a.obj hm_go ?_
   walk_at"rdx"
   refine use1 ⟨p,dx,pa,pf,pn,pl,_,Pg,hit Pg ns i,.non,rfl,R1.a,PO,HOi,by lia,fun fz' ve3 H4 a4 o4 f4=>?_⟩
   walk_at"rdx"
   refine hN _ _ ⟨_,hmul hn',i+1,l,n',pf,fz',ve3,vs,_,rfl,rfl,rn',R1.goes a4 ⟨o4 _ _ R1.npc R1.ch.1,o4 _ _ (fun w=>R1.qb0 (R1.fr qb (mem_cons_of_mem _ w))) R1.ch.2⟩ R1.few (fun b u nb e=>o4 b u (fun w=>nb (mem_cons_of_mem _ w)) e) f4,rt1⟩
end
end My
end
section
namespace My
open PySem L2
section
variable {P:Program} {w:World} {K:W.Frag} {mg:Str->Option Value} {base:Heap}
def ZiW (H:Hp) (a:Addr) (fz:List FZ):Prop:=H a=some (.lst (fz.map fun z=>V.ref z.1.1))/\∀ z∈fz,H z.1.1=some (.lst [.int z.2.1,.int z.2.2.1,.ref z.1.2])/\H z.1.2=some (.lst (z.2.2.2.map V.int))
def Zeg (ps sf sn sl:Addr) (gz:List FZ) (h:HS) (ve:V):List (Addr×HO) :=
 [(ps,.lst [.ref sf,.ref sl,.ref sn,.int h.gone,ve]),(sf,.lst (gz.map fun z=>V.ref z.1.1)),(sn,.lst (h.news.map V.int)),(sl,.lst (h.left.map V.int))]++gz.flatMap ZbS
theorem Zbg {ps sf sn sl:Addr} {gz:List FZ} {h:HS} {ve:V}:(Zeg ps sf sn sl gz h ve).map (·.1)=ownA ps sf sn sl gz:=by
 unfold Zeg ownA
 rw[map_append,map_flatMap]
 rfl
structure SA (ps sf sn sl:Addr) (gz:List FZ) (H:Hp) (h:HS) (ve:V):Prop where
 all:AllAt H (Zeg ps sf sn sl gz h ve)
 nd:(ownA ps sf sn sl gz).Nodup
 en:Rep H (En.d h.fin) ve
 fr:gz.map (·.2)=h.frames
section
variable {ps sf sn sl:Addr} {gz:List FZ} {H:Hp} {h:HS} {ve:V}
theorem SA.obj (a:SA ps sf sn sl gz H h ve):H ps=some (.lst [.ref sf,.ref sl,.ref sn,.int h.gone,ve]):=AllAt.here (l1:=[]) a.all
theorem SA.fl (a:SA ps sf sn sl gz H h ve):H sf=some (.lst (gz.map fun z=>V.ref z.1.1)):=AllAt.here (l1:=[_]) a.all
theorem SA.nl (a:SA ps sf sn sl gz H h ve):H sn=some (.lst (h.news.map V.int)):=AllAt.here (l1:=[_,_]) a.all
theorem SA.ll (a:SA ps sf sn sl gz H h ve):H sl=some (.lst (h.left.map V.int)):=AllAt.here (l1:=[_,_,_]) a.all
theorem SA.z1 (a:SA ps sf sn sl gz H h ve) {z:FZ} (m:z∈gz):H z.1.1=some (.lst [.int z.2.1,.int z.2.2.1,.ref z.1.2]):=a.all (z.1.1,_) (mem_append_right _ (mem_flatMap.mpr ⟨z,m,mem_cons_self⟩))
theorem SA.z2 (a:SA ps sf sn sl gz H h ve) {z:FZ} (m:z∈gz):H z.1.2=some (.lst (z.2.2.2.map V.int)):=a.all (z.1.2,_) (mem_append_right _ (mem_flatMap.mpr ⟨z,m,mem_cons_of_mem _ mem_cons_self⟩))
theorem SA.mono {H':Hp} (a:SA ps sf sn sl gz H h ve) (s:Same H H'):SA ps sf sn sl gz H' h ve:=⟨a.all.mono s,a.nd,a.en.mono s.ts,a.fr⟩
theorem SA.frs (a:SA ps sf sn sl gz H h ve):ZiW H sf gz:=⟨a.fl,fun z m=>⟨a.z1 m,a.z2 m⟩⟩
theorem _root_.L2.HA.frs {C p dx pp pf pn pl:Addr} {fz:List FZ} {P:List Df} (a:HA C p dx pp pf pn pl fz H P h ve):ZiW H pf fz:=⟨a.fl,fun z m=>⟨a.z1 m,a.z2 m⟩⟩
theorem SA.notup (a:SA ps sf sn sl gz H h ve):ZeA (ownA ps sf sn sl gz) H:=by
 intro b hb xs e
 unfold ownA at hb
 rcases mem_append.mp hb with hb|hb
 ·simp only[mem_cons,not_mem_nil,or_false] at hb
  rcases hb with rfl|rfl|rfl|rfl
  ·rw[a.obj] at e;cases e
  ·rw[a.fl] at e;cases e
  ·rw[a.nl] at e;cases e
  ·rw[a.ll] at e;cases e
 ·obtain ⟨z,hz,hb⟩:=mem_flatMap.mp hb
  simp only[mem_cons,not_mem_nil,or_false] at hb
  rcases hb with rfl|rfl
  ·rw[a.z1 hz] at e;cases e
  ·rw[a.z2 hz] at e;cases e
theorem SA.by {own:List Addr} {H':Hp} (a:SA ps sf sn sl gz H h ve) (s:OSame own H H') (n:ZeA own H) (m:∀ x∈ownA ps sf sn sl gz,x∉own):SA ps sf sn sl gz H' h ve :=
 ⟨a.all.by fun x o hx e=>s x o (m x (by rw[<-Zbg (h:=h) (ve:=ve)];exact hx)) e,a.nd,a.en.mono (s.ts n),a.fr⟩
theorem SA.wrote {l1 l2:List (Addr×HO)} {b:Addr} {o o':HO} {gz':List FZ} {h':HS} {ve':V} (a:SA ps sf sn sl gz H h ve) (e1:Zeg ps sf sn sl gz h ve=l1++(b,o)::l2) (e2:Zeg ps sf sn sl gz' h' ve'=l1++(b,o')::l2)
  (en:Rep (upd H b o') (En.d h'.fin) ve') (fr:gz'.map (·.2)=h'.frames):SA ps sf sn sl gz' (upd H b o') h' ve'/\OSame (ownA ps sf sn sl gz) H (upd H b o'):=by
 have hnd:((l1++(b,o)::l2).map (·.1)).Nodup:=by rw[<-e1,Zbg];exact a.nd
 have hall:=a.all
 rw[e1] at hall
 have ho:ownA ps sf sn sl gz'=ownA ps sf sn sl gz:=by
  rw[<-Zbg (h:=h') (ve:=ve'),<- Zbg (h:=h) (ve:=ve),e1,e2]
  simp
 have hb:b∈ownA ps sf sn sl gz:=by
  rw[<-Zbg (h:=h) (ve:=ve),e1]
  simp
 exact ⟨⟨by rw[e2];exact hall.wr hnd,by rw[ho];exact a.nd,en,fr⟩,OSame.wr hb⟩
theorem SA.wrEn {b:Addr} {o':HO} (a:SA ps sf sn sl gz H h ve) (m:b∈ownA ps sf sn sl gz):Rep (upd H b o') (En.d h.fin) ve:=a.en.mono (OSame.ts (OSame.wr m) a.notup)
end
end
end My
end
section
namespace My
open PySem L2
section
variable {P:Program} {w:World} {K:W.Frag} {mg:Str->Option Value} {base:Heap}
section
variable {ps sf sn sl:Addr} {gz:List FZ} {z:FZ} {H:Hp} {h:HS} {ve:V}
theorem Zdu:Zeg ps sf sn sl (gz++[z]) h ve=([(ps,HO.lst [.ref sf,.ref sl,.ref sn,.int h.gone,ve]),(sf,HO.lst ((gz++[z]).map fun z=>V.ref z.1.1)),(sn,HO.lst (h.news.map V.int)),(sl,HO.lst (h.left.map V.int))]++gz.flatMap ZbS)++[(z.1.1,HO.lst [.int z.2.1,.int z.2.2.1,.ref z.1.2]),(z.1.2,HO.lst (z.2.2.2.map V.int))]:=by
 simp[Zeg,ZbS]
theorem SA.boxG (a:SA ps sf sn sl (gz++[z]) H h ve) (bx:List Int) :
  SA ps sf sn sl (gz++[(z.1,(z.2.1,z.2.2.1,bx))]) (upd H z.1.2 (.lst (bx.map V.int))) { h with frames:=gz.map (·.2)++[(z.2.1,z.2.2.1,bx)] } ve/\OSame (ownA ps sf sn sl (gz++[z])) H (upd H z.1.2 (.lst (bx.map V.int))):=by
 refine a.wrote (l1:=([(ps,HO.lst [.ref sf,.ref sl,.ref sn,.int h.gone,ve]),(sf,HO.lst ((gz++[z]).map fun z=>V.ref z.1.1)),(sn,HO.lst (h.news.map V.int)),(sl,HO.lst (h.left.map V.int))]++gz.flatMap ZbS)++[(z.1.1,HO.lst [.int z.2.1,.int z.2.2.1,.ref z.1.2])]) (l2:=[]) (o:=.lst (z.2.2.2.map V.int)) ?_ ?_ (a.wrEn (ZeN (by simp)).2) (by simp)
 ·rw[Zdu];simp
 ·rw[Zdu];simp
theorem SA.rowG (a:SA ps sf sn sl (gz++[z]) H h ve) (n:Int) :
  SA ps sf sn sl (gz++[(z.1,(z.2.1,n,z.2.2.2))]) (upd H z.1.1 (.lst [.int z.2.1,.int n,.ref z.1.2])) { h with frames:=gz.map (·.2)++[(z.2.1,n,z.2.2.2)] } ve/\OSame (ownA ps sf sn sl (gz++[z])) H (upd H z.1.1 (.lst [.int z.2.1,.int n,.ref z.1.2])):=by
 refine a.wrote (l1:=[(ps,HO.lst [.ref sf,.ref sl,.ref sn,.int h.gone,ve]),(sf,HO.lst ((gz++[z]).map fun z=>V.ref z.1.1)),(sn,HO.lst (h.news.map V.int)),(sl,HO.lst (h.left.map V.int))]++gz.flatMap ZbS) (l2:=[(z.1.2,HO.lst (z.2.2.2.map V.int))]) (o:=.lst [.int z.2.1,.int z.2.2.1,.ref z.1.2]) ?_ ?_ (a.wrEn (ZeN (by simp)).1) (by simp)
 ·rw[Zdu]
 ·rw[Zdu];simp
theorem SA.newsG (a:SA ps sf sn sl gz H h ve) (ns:List Int):SA ps sf sn sl gz (upd H sn (.lst (ns.map V.int))) { h with news:=ns } ve/\OSame (ownA ps sf sn sl gz) H (upd H sn (.lst (ns.map V.int))) :=
 a.wrote (l1:=[_,_]) rfl rfl (a.wrEn (by simp[ownA])) a.fr
theorem SA.leftG (a:SA ps sf sn sl gz H h ve) (ns:List Int):SA ps sf sn sl gz (upd H sl (.lst (ns.map V.int))) { h with left:=ns } ve/\OSame (ownA ps sf sn sl gz) H (upd H sl (.lst (ns.map V.int))) :=
 a.wrote (l1:=[_,_,_]) rfl rfl (a.wrEn (by simp[ownA])) a.fr
theorem SA.goneG (a:SA ps sf sn sl gz H h ve) (n:Int):SA ps sf sn sl gz (upd H ps (.lst [.ref sf,.ref sl,.ref sn,.int n,ve])) { h with gone:=n } ve/\OSame (ownA ps sf sn sl gz) H (upd H ps (.lst [.ref sf,.ref sl,.ref sn,.int n,ve])) :=
 a.wrote (l1:=[]) rfl rfl (a.wrEn (by simp[ownA])) a.fr
theorem SA.endG (a:SA ps sf sn sl gz H h ve) {e:Option En} {v:V} (r:Rep H (En.d e) v):SA ps sf sn sl gz (upd H ps (.lst [.ref sf,.ref sl,.ref sn,.int h.gone,v])) { h with fin:=e } v/\OSame (ownA ps sf sn sl gz) H (upd H ps (.lst [.ref sf,.ref sl,.ref sn,.int h.gone,v])) :=
 a.wrote (l1:=[]) rfl rfl (r.mono (OSame.ts (OSame.wr (by simp[ownA])) a.notup)) a.fr
theorem SA.push (a:SA ps sf sn sl gz H h ve) {fr bx:Addr} {f:Fr} (h1:H fr=some (.lst [.int f.1,.int f.2.1,.ref bx])) (h2:H bx=some (.lst (f.2.2.map V.int))) (n1:fr∉ownA ps sf sn sl gz) (n2:bx∉ownA ps sf sn sl gz) (n3:fr≠bx) :
  SA ps sf sn sl (gz++[((fr,bx),f)]) (upd H sf (.lst ((gz.map fun z=>V.ref z.1.1)++[.ref fr]))) { h with frames:=h.frames++[f] } ve/\OSame (ownA ps sf sn sl gz) H (upd H sf (.lst ((gz.map fun z=>V.ref z.1.1)++[.ref fr]))):=by
 have hpf:sf∈ownA ps sf sn sl gz:=by simp[ownA]
 have os:OSame (ownA ps sf sn sl gz) H (upd H sf (.lst ((gz.map fun z=>V.ref z.1.1)++[.ref fr]))):=OSame.wr hpf
 have hnd:((Zeg ps sf sn sl gz h ve).map (·.1)).Nodup:=by rw[Zbg];exact a.nd
 have hw:=AllAt.wr (l1:=[_]) (o':=.lst ((gz.map fun z=>V.ref z.1.1)++[.ref fr])) a.all hnd
 refine ⟨⟨?_,?_,a.wrEn hpf,by simp[a.fr]⟩,os⟩
 ·have e:Zeg ps sf sn sl (gz++[((fr,bx),f)]) { h with frames:=h.frames++[f] } ve=([(ps,HO.lst [.ref sf,.ref sl,.ref sn,.int h.gone,ve]),(sf,HO.lst ((gz.map fun z=>V.ref z.1.1)++[.ref fr])),(sn,HO.lst (h.news.map V.int)),(sl,HO.lst (h.left.map V.int))]++gz.flatMap ZbS)++ZbS ((fr,bx),f):=by
   simp[Zeg]
  rw[e]
  intro x hx
  rcases mem_append.mp hx with hx|hx
  ·exact hw x hx
  ·simp only[ZbS,mem_cons,not_mem_nil,or_false] at hx
   rcases hx with rfl|rfl
   ·exact os _ _ n1 h1
   ·exact os _ _ n2 h2
 ·rw[Zbi]
  refine nodup_append.mpr ⟨a.nd,by simp[n3],fun x hx y hy e=>?_⟩
  simp only[mem_cons,not_mem_nil,or_false] at hy
  subst e
  rcases hy with rfl|rfl
  ·exact n1 hx
  ·exact n2 hx
theorem SA.pop (a:SA ps sf sn sl (gz++[z]) H h ve):SA ps sf sn sl gz (upd H sf (.lst (gz.map fun z=>V.ref z.1.1))) { h with frames:=gz.map (·.2) } ve/\OSame (ownA ps sf sn sl (gz++[z])) H (upd H sf (.lst (gz.map fun z=>V.ref z.1.1))):=by
 have hpf:sf∈ownA ps sf sn sl (gz++[z]):=by simp[ownA]
 have os:OSame (ownA ps sf sn sl (gz++[z])) H (upd H sf (.lst (gz.map fun z=>V.ref z.1.1))):=OSame.wr hpf
 have hnd:((Zeg ps sf sn sl (gz++[z]) h ve).map (·.1)).Nodup:=by rw[Zbg];exact a.nd
 have hw:=AllAt.wr (l1:=[_]) (o':=.lst (gz.map fun z=>V.ref z.1.1)) a.all hnd
 refine ⟨⟨fun x hx=>hw x ?_,?_,a.wrEn hpf,rfl⟩,os⟩
 ·have e:([(ps,HO.lst [.ref sf,.ref sl,.ref sn,.int h.gone,ve]),(sf,HO.lst (gz.map fun z=>V.ref z.1.1)),(sn,HO.lst (h.news.map V.int)),(sl,HO.lst (h.left.map V.int))]++(gz++[z]).flatMap ZbS)=Zeg ps sf sn sl gz { h with frames:=gz.map (·.2) } ve++ZbS z:=by
   simp[Zeg]
  show x∈([(ps,HO.lst [.ref sf,.ref sl,.ref sn,.int h.gone,ve]),(sf,HO.lst (gz.map fun z=>V.ref z.1.1)),(sn,HO.lst (h.news.map V.int)),(sl,HO.lst (h.left.map V.int))]++(gz++[z]).flatMap ZbS)
  rw[e]
  exact mem_append_left _ hx
 ·have:=a.nd
  rw[Zbi] at this
  exact (nodup_append.mp this).1
end
inductive Pr_worthG (x y u:V) (H:Hp) (Q:VK):Prop
 | mk (P many r ps sf sn sl gz z h ve) (_:x=.ref ps) (_:SA ps sf sn sl (gz++[z]) H h ve) (_:Rep H (rowD (Rw.row r)) y) (_:u=.ref z.1.2) (_:Rw.Ok P z.2.2.2.length many r) (_:ZiV z.2.2.2) (_:(∃ p v,r.calc z.2.2.2=some (p,v))\/(∃ p,r=.take p)/\h.left≠[]) (_:∀ p v l' H',r.row.2[0]?=some (.int p)->In0 p z.2.2.2.length->r.own3 z.2.2.2 h.left h.news=(Zbz z.2.2.2 p v,l',h.news)->SA ps sf sn sl (gz++[z]) H' { h with left:=l' } ve->OSame (ownA ps sf sn sl (gz++[z])) H H'->Q (.int v) H'):Pr_worthG x y u H Q
def ZeT:Sp:=sp3 (Pr_worthG)
theorem sc__law_worth:FnScope ["state","row","boxes"] ["state","row","boxes"] (Zan ZcB):=by walk_at"fs"
theorem ZgZ (T__law_worth:TopFn K mg "_law_worth" ZcB ["state","row","boxes"]):Callee P w K mg base "_law_worth" 1 ["state","row","boxes"] ZeT:=by
 refine T__law_worth.ok3 sc__law_worth fun f cdv A outer s H v1 v2 v3 Q E hr hh=>?_
 have nd:=sc__law_worth.nd
 obtain ⟨Pg,many,r,ps,sf,sn,sl,gz,z,h,ve,rfl,a,rv,rfl,ok,mu,hc,k⟩:=hh
 refine' ZaB [some (.ref ps),some v2,some (.ref z.1.2)] rfl ?hb ?hg
 case hb=>exact (Zaf (ZaZ (Zar ZaX (Zai (k_ix (K:=K) rfl) (pv 1) Zaa (fun _ _=>rfl)) Zat (Zau _)) (Zal (Zay (Zai (k_ix (K:=K) rfl) (pv 1) Zaa (fun _ _=>rfl)))) ZaE) (Zaf (ZaZ (Zar ZaX (Zai (k_ix (K:=K) rfl) (pv 1) Zaa (fun _ _=>rfl)) Zat (Zau _)) (Zal (Zay (Zai (k_ix (K:=K) rfl) (pv 2) (Zai (k_ix (K:=K) rfl) (pv 1) Zaa (fun _ _=>rfl)) (fun _ _=>rfl)))) ZaE) (Zaf (ZaZ (Zar ZaX (Zai (k_ix (K:=K) rfl) (pv 1) Zaa (fun _ _=>rfl)) Zat (Zau _)) (Zal (Zay (ZaN Zbx (Zai (k_ix (K:=K) rfl) (pv 2) (Zai (k_ix (K:=K) rfl) (pv 1) Zaa (fun _ _=>rfl)) (fun _ _=>rfl)) (Zai (k_ix (K:=K) rfl) (pv 2) (Zai (k_ix (K:=K) rfl) (pv 1) Zaa (fun _ _=>rfl)) (fun _ _=>rfl))))) ZaE) (Zaf (ZaZ (Zar ZaX (Zai (k_ix (K:=K) rfl) (pv 1) Zaa (fun _ _=>rfl)) Zat (Zau _)) (Zal (Zay (ZaN Zej (Zai (k_ix (K:=K) rfl) (pv 2) (Zai (k_ix (K:=K) rfl) (pv 1) Zaa (fun _ _=>rfl)) (fun _ _=>rfl)) (Zai (k_ix (K:=K) rfl) (pv 2) (Zai (k_ix (K:=K) rfl) (pv 1) Zaa (fun _ _=>rfl)) (fun _ _=>rfl))))) ZaE) (Zaf (ZaZ (Zar ZaX (Zai (k_ix (K:=K) rfl) (pv 1) Zaa (fun _ _=>rfl)) Zat (Zau _)) (Zal (Zay (ZaN Zet (Zai (k_ix (K:=K) rfl) (pv 2) (Zai (k_ix (K:=K) rfl) (pv 1) Zaa (fun _ _=>rfl)) (fun _ _=>rfl)) (Zai (k_ix (K:=K) rfl) (pv 1) Zaa (fun _ _=>rfl))))) ZaE) (Zal (Zay (k_bm (K:=K) rfl PySem.F.plainAttrs_list PySem.F.slot_list_pop PySem.F.type_list_pop ZdF (Zai (k_ix (K:=K) rfl) (pv 0) Zaa (fun _ _=>rfl)) (Zab Zaa Zad)))))))))
 have z2:=a.z2 (z:=z) (by simp)
 cases r with
 | put p n =>
  walk_at"rd"
  refine Zah rv ?_
  walk_at"rd"
  refine ZaJ rfl ?_
  walk_at"rd"
  exact Zaz (n:=1) rv rfl rfl (k p n h.left H rfl ok.1 rfl a (OSame.refl _ _))
 | copy p q =>
  walk_at"rd"
  refine Zah rv ?_
  walk_at"rd"
  refine Zao (by simp only[Rw.row];decide) ?_
  walk_at"rd"
  refine Zah rv ?_
  walk_at"rd"
  refine ZaJ rfl ?_
  walk_at"rd"
  exact Zaz (n:=1) rv rfl rfl (Zak z2 (Za8 ok.2) (k p _ h.left H rfl ok.1 rfl a (OSame.refl _ _)))
 | plus p q r =>
  walk_at"rd"
  refine Zah rv ?_
  walk_at"rd"
  refine Zao (by simp only[Rw.row];decide) ?_
  walk_at"rd"
  refine Zah rv ?_
  walk_at"rd"
  refine Zao (by simp only[Rw.row];decide) ?_
  walk_at"rd"
  refine Zah rv ?_
  walk_at"rd"
  refine ZaJ rfl ?_
  walk_at"rd"
  refine Zaz (n:=1) rv rfl rfl (Zak z2 (Za8 ok.2.1) ?_)
  walk_at"rd"
  refine Zaz (n:=2) rv rfl rfl (Zak z2 (Za8 ok.2.2) ?_)
  walk_at"rd"
  exact k p _ h.left H rfl ok.1 rfl a (OSame.refl _ _)
 | less p q r =>
  walk_at"rd"
  refine Zah rv ?_
  walk_at"rd"
  refine Zao (by simp only[Rw.row];decide) ?_
  walk_at"rd"
  refine Zah rv ?_
  walk_at"rd"
  refine Zao (by simp only[Rw.row];decide) ?_
  walk_at"rd"
  refine Zah rv ?_
  walk_at"rd"
  refine Zao (by simp only[Rw.row];decide) ?_
  walk_at"rd"
  refine Zah rv ?_
  walk_at"rd"
  refine ZaJ rfl ?_
  walk_at"rd"
  refine Zaz (n:=1) rv rfl rfl (Zak z2 (Za8 ok.2.1) ?_)
  walk_at"rd"
  refine Zaz (n:=2) rv rfl rfl (Zak z2 (Za8 ok.2.2) ?_)
  walk_at"rd"
  exact k p _ h.left H rfl ok.1 rfl a (OSame.refl _ _)
 | times p q n =>
  walk_at"rd"
  refine Zah rv ?_
  walk_at"rd"
  refine Zao (by simp only[Rw.row];decide) ?_
  walk_at"rd"
  refine Zah rv ?_
  walk_at"rd"
  refine Zao (by simp only[Rw.row];decide) ?_
  walk_at"rd"
  refine Zah rv ?_
  walk_at"rd"
  refine Zao (by simp only[Rw.row];decide) ?_
  walk_at"rd"
  refine Zah rv ?_
  walk_at"rd"
  refine Zao (by simp only[Rw.row];decide) ?_
  walk_at"rd"
  refine Zah rv ?_
  walk_at"rd"
  refine ZaJ rfl ?_
  walk_at"rd"
  refine Zaz (n:=1) rv rfl rfl (Zak z2 (Za8 ok.2.1) ?_)
  walk_at"rd"
  refine Zaz (n:=2) rv rfl rfl (rd_I ⟨mu _ (Zkh ok.2.1),big99 ok.2.2⟩ ?_)
  exact k p _ h.left H rfl ok.1 rfl a (OSame.refl _ _)
 | take p =>
  have hne:h.left≠[]:=by
   rcases hc with ⟨_,_,e⟩|⟨_,e⟩
   ·cases e
   ·exact e
  obtain ⟨n,rest,hl⟩:∃ n rest,h.left=n::rest:=by
   cases e:h.left with
   | nil=>exact absurd e hne
   | cons n rest=>exact ⟨n,rest,rfl⟩
  walk_at"rd"
  refine Zah rv ?_
  walk_at"rd"
  refine Zao (by simp only[Rw.row];decide) ?_
  walk_at"rd"
  refine Zah rv ?_
  walk_at"rd"
  refine Zao (by simp only[Rw.row];decide) ?_
  walk_at"rd"
  refine Zah rv ?_
  walk_at"rd"
  refine Zao (by simp only[Rw.row];decide) ?_
  walk_at"rd"
  refine Zah rv ?_
  walk_at"rd"
  refine Zao (by simp only[Rw.row];decide) ?_
  walk_at"rd"
  refine Zah rv ?_
  walk_at"rd"
  refine Zao (by simp only[Rw.row];decide) ?_
  walk_at"rd"
  refine Zak (v:=.ref sl) a.obj rfl ⟨.inl ⟨rfl,_,SqL.of a.ll⟩,?_⟩
  walk_at"rd"
  refine ⟨sl,_,0,0,.int n,rfl,rfl,a.ll,by decide,by decide,?_,by rw[hl];rfl,?_⟩
  ·rw[hl];simp[seqIndex?]
  have e:(h.left.map V.int).eraseIdx 0=rest.map V.int:=by rw[hl];rfl
  rw[e]
  obtain ⟨a1,o1⟩:=a.leftG rest
  exact k p n rest _ rfl ok (by simp[Rw.own3,hl]) a1 o1
 | tell p=>rcases hc with ⟨_,_,e⟩|⟨⟨_,e⟩,_⟩ <;> cases e
 | jump p=>rcases hc with ⟨_,_,e⟩|⟨⟨_,e⟩,_⟩ <;> cases e
 | zero p t=>rcases hc with ⟨_,_,e⟩|⟨⟨_,e⟩,_⟩ <;> cases e
 | below p t=>rcases hc with ⟨_,_,e⟩|⟨⟨_,e⟩,_⟩ <;> cases e
 | call p f qs=>rcases hc with ⟨_,_,e⟩|⟨⟨_,e⟩,_⟩ <;> cases e
 | back p=>rcases hc with ⟨_,_,e⟩|⟨⟨_,e⟩,_⟩ <;> cases e
end
end My
end
section
namespace My
open PySem L2
section
variable {P:Program} {w:World} {K:W.Frag} {mg:Str->Option Value} {base:Heap}
theorem ZfJ {H:Hp} {r:Str×List D} {v:V} {Q:VK} {l:List D} {t:Int} (h:Rep H (rowD r) v) (e:r.2=l++[.int t]) (q:Q (.int t) H):rIxA K v (.int (-1)) H Q:=by
 obtain ⟨av,xs,rfl,hx,rx⟩:=ZaG h
 have hxl:=rx.length
 obtain ⟨u,eu,ru⟩:=rx.get (i:=l.length+1) (d:=.int t) (by simp[e])
 obtain rfl:=ZaK ru
 obtain ⟨ys,x,hlx⟩:∃ ys x,xs=ys++[x]:=by
  rcases eq_nil_or_concat xs with e|⟨l,x,e⟩
  ·subst e;simp at eu
  ·exact ⟨l,x,by simpa using e⟩
 subst hlx
 have hl:l.length+1=ys.length:=by simp[e] at hxl;lia
 rw[hl,getElem?_concat_length] at eu
 cases eu
 exact Zaq hx Zge q
theorem ZfN {H:Hp} {p:Addr} {x:V} {xs:List V} {b:Bool} {Q:VK} (h:H p=some (.lst xs)) (fx:Zfj x=true) (fs:xs.all Zfj=true) (e:(!inV x xs)=b) (q:Q (.bl b) H):rIn K true x (.ref p) H Q:=⟨p,xs,rfl,.inl (SqL.of h),fx,fs,by rw[if_pos rfl,e];exact q⟩
theorem SA.fresh {ps sf sn sl:Addr} {gz:List FZ} {H:Hp} {h:HS} {ve:V} (a:SA ps sf sn sl gz H h ve) {b:Addr} (e:H b=none):b∉ownA ps sf sn sl gz:=fun m=>by
 rw[<-Zbg (h:=h) (ve:=ve)] at m
 obtain ⟨x,hx,rfl⟩:=mem_map.mp m
 rw[a.all x hx] at e
 cases e
theorem ZjA {ps sf sn sl:Addr} {gz:List FZ} {z z':FZ} (e:z'.1=z.1):ownA ps sf sn sl (gz++[z'])=ownA ps sf sn sl (gz++[z]):=by rw[Zbi,Zbi,e]
theorem Zhz {ps sf sn sl x:Addr} {gz:List FZ} {z z':FZ} (h:x∈ownA ps sf sn sl (gz++[z'])) (e:z'.1=z.1:=by rfl):x∈ownA ps sf sn sl (gz++[z]):=by rw[ZjA e] at h;exact h
inductive Pr_goesG (x y u t:V) (H:Hp) (Q:VK):Prop
 | mk (pp P ps sf sn sl gz z h ve d r) (_:x=.ref pp) (_:y=.ref ps) (_:Rep H (rowD (Rw.row r)) u) (_:t=.ref z.1.2) (_:PgAt (ownA ps sf sn sl (gz++[z])) H P pp) (_:SA ps sf sn sl (gz++[z]) H h ve) (_:PgOk P) (_:0<=z.2.1) (_:P[z.2.1.toNat]?=some d) (_:d.rows[z.2.2.1.toNat]?=some r) (_:(z.2.2.2.length:Int)=d.boxes) (_:ZiV z.2.2.2) (_:ZbO h z.2 r=none) (_:h.news.length<=200000) (_:gz.length<=20) (_:∀ gz0 w,gz=gz0++[w]->∃ d2 p2 g qs,0<=w.2.1/\P[w.2.1.toNat]?=some d2/\0<=w.2.2.1/\d2.rows[w.2.2.1.toNat]?=some (.call p2 g qs)/\In0 p2 w.2.2.2.length) (_:∀ gz' H',SA ps sf sn sl gz' H' (Zer h (eff P (gz.map (·.2)) z.2 h.left h.news r)) ve->OSame (ownA ps sf sn sl (gz++[z])) H H'->(∀ x∈ownA ps sf sn sl gz',x∈ownA ps sf sn sl (gz++[z])\/H x=none)->Q .non H'):Pr_goesG x y u t H Q
def ZfG:Sp:=sp4 (Pr_goesG)
theorem sc__law_goes:FnScope ["program","state","row","boxes","frames","frame","takes","many","rows","caller"] ["program","state","row","boxes"] (Zan Zc4):=by walk_at"fs"
theorem ZhR (T__law_goes:TopFn K mg "_law_goes" Zc4 ["program","state","row","boxes"]) (Zd2:Callee P w K mg base "_law_worth" 1 ["state","row","boxes"] ZeT):Callee P w K mg base "_law_goes" 2 ["program","state","row","boxes"] ZfG:=by
 refine T__law_goes.ok4 sc__law_goes fun f cdv A outer s H v1 v2 v3 v4 Q E hr hh=>?_
 have nd:=sc__law_goes.nd
 obtain ⟨pp,Pg,ps,sf,sn,sl,gz,z,h,ve,d,r,rfl,rfl,rv,rfl,pg,a,PO,f0,ed,er,hbx,mu,hend,few,hgz,hw,k⟩:=hh
 have DO:=PO.2.2 d (mem_of_getElem? ed)
 have ok:r.Ok Pg z.2.2.2.length d.rows.length:=by rw[hbx];exact DO.rows r (mem_of_getElem? er)
 refine' ZaB [some (.ref pp),some (.ref ps),some v3,some (.ref z.1.2),none,none,none,none,none,none] rfl ?hb ?hg
 case hb=>exact (Zaf (Zbd (i:=4) nd rfl (Or.inl rfl) (Zai (k_ix (K:=K) rfl) (pv 1) Zaa (fun _ _=>rfl))) (Zaf (Zbd (i:=5) nd rfl (Or.inl rfl) (Zai (k_ix (K:=K) rfl) (pv 4) (Zcp ZbB Zaa) (fun _ _=>rfl))) (Zaf (Za3 (ZaN Zbx (Zai (k_ix (K:=K) rfl) (pv 5) Zaa (fun _ _=>rfl)) Zaa) (Zbq (pv 5) Zaa ZaO)) (Zal (ZaZ (Zar ZaX (Zai (k_ix (K:=K) rfl) (pv 2) Zaa (fun _ _=>rfl)) Zat (Zau _)) (Zal (Zbm (k_bm (K:=K) rfl PySem.F.plainAttrs_list PySem.F.slot_list_append PySem.F.type_list_append ZbN (Zai (k_ix (K:=K) rfl) (pv 1) Zaa (fun _ _=>rfl)) (Zav (Zai (k_ix (K:=K) rfl) (pv 3) (Zai (k_ix (K:=K) rfl) (pv 2) Zaa (fun _ _=>rfl)) (fun _ _=>rfl)) Zad)))) (Zal (ZaZ (PW.pt (Ziz (Zar ZaX (Zai (k_ix (K:=K) rfl) (pv 2) Zaa (fun _ _=>rfl)) Zat (Zau _)) (Ziz (PW.pt (Zbk (Zar ZaX (Zai (k_ix (K:=K) rfl) (pv 2) Zaa (fun _ _=>rfl)) Zat (Zau _)) (Zba (Zar ZaX (Zai (k_ix (K:=K) rfl) (pv 3) (Zai (k_ix (K:=K) rfl) (pv 2) Zaa (fun _ _=>rfl)) (fun _ _=>rfl)) Zaa (Zau _))))) (Zgz (PW.pt (Zbk (Zar ZaX (Zai (k_ix (K:=K) rfl) (pv 2) Zaa (fun _ _=>rfl)) Zat (Zau _)) (Zba (Zar ZhA (Zai (k_ix (K:=K) rfl) (pv 3) (Zai (k_ix (K:=K) rfl) (pv 2) Zaa (fun _ _=>rfl)) (fun _ _=>rfl)) Zaa (Zau _))))))))) (Zal (Za3 (Zai (k_ix (K:=K) rfl) (pv 2) (Zcp ZbB Zaa) (fun _ _=>rfl)) (Zbq (pv 5) Zaa ZaO))) (Zal (ZaZ (Zar ZaX (Zai (k_ix (K:=K) rfl) (pv 2) Zaa (fun _ _=>rfl)) Zat (Zau _)) (Zaf (Za3 (ZaN Zej (Zai (k_ix (K:=K) rfl) (pv 5) Zaa (fun _ _=>rfl)) Zaa) (Zbq (pv 5) Zaa ZaO)) (Zaf (Za3 (Zai (k_ix (K:=K) rfl) (pv 0) (Zai (k_ix (K:=K) rfl) (pv 2) Zaa (fun _ _=>rfl)) (fun _ _=>rfl)) (ZbQ (K:=K) (n:=3) rfl rfl (ZaF (ZaA (i:=6) nd rfl (Or.inl rfl)) (ZaF (ZaA (i:=7) nd rfl (Or.inl rfl)) (ZaF (ZaA (i:=8) nd rfl (Or.inl rfl)) Zb5))))) (Zal (Zbm (k_bm (K:=K) rfl PySem.F.plainAttrs_list PySem.F.slot_list_append PySem.F.type_list_append ZbN (pv 4) (Zbs (ZaH (Zav (Zai (k_ix (K:=K) rfl) (pv 2) Zaa (fun _ _=>rfl)) (Zab Zaa (Zc9 (ZaN Zek (Zb1 (LN:=["q"]) (FN:=["boxes"]) (fr:=[3]) rfl (Zd0 (by rfl)) (ZcI (K:=K) rfl (Zai (k_ix (K:=K) rfl) (pv 2) Zaa (fun _ _=>rfl))) (fun cl C fp pins s H=>(ZaA (i:=0) (show ((["q"]:List Str)++(["boxes"]:List Str)).Nodup by decide +kernel) rfl (Or.inl rfl))) (fun cl C fp pins s H=>ZbR) (fun cl C fp pins s H=>(Zai (k_ix (K:=K) rfl) (pv 1) (pv 0) (fun _ _=>rfl)))) (ZaN Zh7 (ZaH (Zab Zaa Zad)) (ZaN Zej (pv 7) (pv 6)))) Zad)))) Zad)))))) (Zal (ZaZ (Zar ZaX (Zai (k_ix (K:=K) rfl) (pv 2) Zaa (fun _ _=>rfl)) Zat (Zau _)) (Zaf (Zbm (Zmv (K:=K) rfl PySem.F.plainAttrs_list PySem.F.slot_list_pop PySem.F.type_list_pop ZjD (pv 4))) (Zaf (Zbd (i:=9) nd rfl (Or.inl rfl) (Zai (k_ix (K:=K) rfl) (pv 4) (Zcp ZbB Zaa) (fun _ _=>rfl))) (Zaf (Za3 (Zai (k_ix (K:=K) rfl) (pv 3) (Zai (k_ix (K:=K) rfl) (pv 2) Zaa (fun _ _=>rfl)) (fun _ _=>rfl)) (Zbq (Zai (k_ix (K:=K) rfl) (pv 9) Zaa (fun _ _=>rfl)) (Zai (k_ix (K:=K) rfl) (Zai (k_ix (K:=K) rfl) (Zai (k_ix (K:=K) rfl) (Zai (k_ix (K:=K) rfl) (pv 0) (Zai (k_ix (K:=K) rfl) (pv 9) Zaa (fun _ _=>rfl)) (fun _ _=>rfl)) Zaa (fun _ _=>rfl)) (Zai (k_ix (K:=K) rfl) (pv 9) Zaa (fun _ _=>rfl)) (fun _ _=>rfl)) Zaa (fun _ _=>rfl)) ZaO)) (Zal (Za3 (ZaN Zbx (Zai (k_ix (K:=K) rfl) (pv 9) Zaa (fun _ _=>rfl)) Zaa) (Zbq (pv 9) Zaa ZaO)))))) (Zal (ZaZ (Zar (Zmt (K:=K) rfl) (Zai (k_ix (K:=K) rfl) (pv 2) Zaa (fun _ _=>rfl)) (ZaH (Zab Zat (Zab Zat Zad))) (by with_unfolding_all rfl)) (Zal (Za3 (ZaS Zd2 hr.m (by rfl) (Zac (pv 1) (Zac (pv 2) (Zac (pv 3) Zad)))) (Zbq (pv 3) (Zai (k_ix (K:=K) rfl) (pv 2) Zaa (fun _ _=>rfl)) ZaO))) ZaE)))))))))))))
 have z1:=a.z1 (z:=z) (by simp)
 have hfr:h.frames=gz.map (·.2)++[z.2]:=by rw[<-a.fr];simp
 walk_at"rd"
 refine Zak (v:=.ref sf) a.obj rfl ?_
 walk_at"rd"
 refine Zak a.fl Zdb ?_
 walk_at"rd"
 refine Zak (v:=.int z.2.2.1) z1 rfl ?_
 walk_at"rd"
 refine Zbh (k:=1) z1 rfl ?_
 obtain ⟨a1,o1⟩:=a.rowG (z.2.2.1+1)
 have e1:[V.int z.2.1,V.int z.2.2.1,V.ref z.1.2].set 1 (V.int (z.2.2.1+1))=[V.int z.2.1,V.int (z.2.2.1+1),V.ref z.1.2]:=rfl
 rw[e1]
 have ow:ownA ps sf sn sl (gz++[(z.1,(z.2.1,z.2.2.1+1,z.2.2.2))])=ownA ps sf sn sl (gz++[z]):=ZjA rfl
 have rv1:=rv.mono (o1.ts a.notup)
 have pg1:PgAt (ownA ps sf sn sl (gz++[z])) (upd H z.1.1 (.lst [.int z.2.1,.int (z.2.2.1+1),.ref z.1.2])) Pg pp:=pg.by o1 (o1.ts a.notup) fun x hx=>.inl hx
 generalize upd H z.1.1 (.lst [.int z.2.1,.int (z.2.2.1+1),.ref z.1.2])=H1 at a1 o1 rv1 pg1
 have w1:=a1.z1 (z:=(z.1,(z.2.1,z.2.2.1+1,z.2.2.2))) (by simp)
 have w2:=a1.z2 (z:=(z.1,(z.2.1,z.2.2.1+1,z.2.2.2))) (by simp)
 have worthy:r.next z.2.2.2 z.2.2.1=z.2.2.1+1->eff Pg (gz.map (·.2)) z.2 h.left h.news r=(gz.map (·.2)++[(z.2.1,r.next z.2.2.2 z.2.2.1,(r.own3 z.2.2.2 h.left h.news).1)],(r.own3 z.2.2.2 h.left h.news).2.1,(r.own3 z.2.2.2 h.left h.news).2.2)->((∃ p v,r.calc z.2.2.2=some (p,v))\/(∃ p,r=.take p)/\h.left≠[])->(!inV (.str r.row.1) [V.str "zero",V.str "below"])=true ->
   (tIfS (ZaW (tOp (rIn K true) (tOp (rIxA K) (tVar 2) (tC (.int 0))) (tLst (Zae (tC (.str "zero")) (Zae (tC (.str "below")) tNil))))) (tAsg (ZaQ ZeT [] E0 (Zae (tVar 1) (Zae (tVar 2) (Zae (tVar 3) tNil)))) (gSub (tVar 3) (tOp (rIxA K) (tVar 2) (tC (.int 1))) Zco)) ZbH) { nx:=fun _ H'=>Q .non H',rt:=Q } [some (.ref pp),some (.ref ps),some v3,some (.ref z.1.2),some (.ref sf),some (.ref z.1.1),none,none,none,none] H1:=by
  intro hnx heff hc hin
  walk_at"rd"
  refine Zah rv1 ?_
  walk_at"rd"
  walk_at"mk";intro u hu
  have s2:=Same.new (o:=.lst [.str "zero",.str "below"]) hu
  refine ZfN (b:=true) Zag rfl rfl hin ?_
  have a2:=a1.mono s2
  have rv2:=rv1.mono s2.ts
  generalize upd H1 u (HO.lst [V.str "zero",V.str "below"])=H2 at s2 a2 rv2
  walk_at"rd"
  refine use3 ⟨Pg,d.rows.length,r,ps,sf,sn,sl,gz,(z.1,(z.2.1,z.2.2.1+1,z.2.2.2)),_,ve,rfl,a2,rv2,rfl,ok,mu,hc,fun p v l' H3 hp0 hp ho a3 o3=>?_⟩
  walk_at"rd"
  refine Zaz (n:=0) (rv2.mono (o3.ts a2.notup)) rfl hp0 ?_
  have x2:=a3.z2 (z:=(z.1,(z.2.1,z.2.2.1+1,z.2.2.2))) (by simp)
  have hq:p.toNat < z.2.2.2.length:=by have:=hp.1;have:=hp.2;dsimp only at *;lia
  refine Zbh (k:=p.toNat) x2 (ZgF (by have:=hp.1;lia) (by rw[length_map];exact hq)) ?_
  rw[Zdp]
  obtain ⟨a4,o4⟩:=a3.boxG (Zbz z.2.2.2 p v)
  rw[ow] at o3 o4
  refine k (gz++[(z.1,(z.2.1,z.2.2.1+1,Zbz z.2.2.2 p v))]) _ ?_ (((o1.trans (OSame.of s2) fun x hx=>.inl hx).trans o3 fun x hx=>.inl hx).trans o4 fun x hx=>.inl hx) fun x hx=>.inl (Zhz hx)
  rw[heff,hnx]
  have ho':r.own3 z.2.2.2 h.left h.news=(Zbz z.2.2.2 p v,l',h.news):=ho
  rw[ho']
  exact a4
 have same:∀ n,eff Pg (gz.map (·.2)) z.2 h.left h.news r=(gz.map (·.2)++[(z.2.1,n,z.2.2.2)],h.left,h.news)->Zco (.ref z.1.1) (.int 1) (.int n) H1 fun H2=>Q .non H2:=fun n heff=>by
  refine Zbh (k:=1) w1 rfl ?_
  obtain ⟨a2,o2⟩:=a1.rowG n
  rw[ow] at o2
  refine k (gz++[(z.1,(z.2.1,n,z.2.2.2))]) _ ?_ (o1.trans o2 fun x hx=>.inl hx) fun x hx=>.inl (Zhz hx)
  rw[heff]
  exact a2
 have stay:eff Pg (gz.map (·.2)) z.2 h.left h.news r=(gz.map (·.2)++[(z.2.1,z.2.2.1+1,z.2.2.2)],h.left,h.news)->∀ H2,Same H1 H2->Q .non H2:=fun heff H2 s2=>by
  refine k (gz++[(z.1,(z.2.1,z.2.2.1+1,z.2.2.2))]) _ ?_ (o1.trans (OSame.of s2) fun x hx=>.inl hx) fun x hx=>.inl (by rw[ow] at hx;exact hx)
  rw[heff]
  exact a1.mono s2
 cases r with
 | tell q =>
  walk_at"rd"
  refine Zah rv1 ?_
  walk_at"rd"
  refine ZaJ rfl ?_
  walk_at"rd"
  refine Zak (v:=.ref sn) a1.obj rfl ⟨.inl ⟨rfl,_,SqL.of a1.nl⟩,?_⟩
  walk_at"rd"
  refine Zaz (n:=0) rv1 rfl rfl (Zak w2 (Za8 ok) ?_)
  walk_at"rd"
  refine ZbM a1.nl (Nat.lt_of_le_of_lt (show (h.news.map V.int).length<=200000 by rw[length_map];exact few) (by rw[sizeLine_eq];decide)) ?_
  have e:h.news.map V.int++[V.int (ZaL z.2.2.2 q)]=(h.news++[ZaL z.2.2.2 q]).map V.int:=by simp
  rw[e]
  obtain ⟨a2,o2⟩:=a1.newsG (h.news++[ZaL z.2.2.2 q])
  rw[ow] at o2
  walk_at"rd"
  exact k (gz++[(z.1,(z.2.1,z.2.2.1+1,z.2.2.2))]) _ a2 (o1.trans o2 fun x hx=>.inl hx) fun x hx=>.inl (by rw[ow] at hx;exact hx)
 | jump t =>
  walk_at"rd"
  refine Zah rv1 ?_
  walk_at"rd"
  refine Zao (by simp only[Rw.row];decide) ?_
  walk_at"rd"
  refine Zah rv1 ?_
  walk_at"rd"
  refine ZaJ rfl ?_
  walk_at"rd"
  refine ZfJ (l:=[]) (t:=t) rv1 rfl ?_
  walk_at"rd"
  exact same t rfl
 | zero q t =>
  walk_at"rd"
  refine Zah rv1 ?_
  walk_at"rd"
  refine Zao (by simp only[Rw.row];decide) ?_
  walk_at"rd"
  refine Zah rv1 ?_
  walk_at"rd"
  refine Zao (by simp only[Rw.row];decide) ?_
  walk_at"rd"
  refine Zah rv1 ?_
  walk_at"rd"
  refine ZaJ rfl ?_
  walk_at"rd"
  refine Zaz (n:=0) rv1 rfl rfl (Zak w2 (Za8 ok.1) ?_)
  walk_at"rd"
  by_cases h0:ZaL z.2.2.2 q=0
  ·refine ZaJ h0 ?_
   walk_at"rd"
   refine ZfJ (l:=[.int q]) (t:=t) rv1 rfl ?_
   walk_at"rd"
   exact same t (by simp[eff,Rw.next,h0,Rw.own3,Rw.calc])
  ·refine Zao h0 ?_
   walk_at"rd"
   refine Zah rv1 ?_
   walk_at"rd"
   refine Zao (by simp only[Rw.row];decide) ?_
   walk_at"rd"
   refine Zah rv1 ?_
   walk_at"rd"
   refine Zao (by simp only[Rw.row];decide) ?_
   walk_at"rd"
   refine Zah rv1 ?_
   walk_at"rd"
   refine Zao (by simp only[Rw.row];decide) ?_
   walk_at"rd"
   refine Zah rv1 ?_
   walk_at"rd"
   walk_at"mk";intro u hu
   refine ZfN (b:=false) Zag rfl rfl (by simp only[Rw.row];decide) ?_
   walk_at"rd"
   exact stay (by simp[eff,Rw.next,h0,Rw.own3,Rw.calc]) _ (Same.new hu)
 | below q t =>
  walk_at"rd"
  refine Zah rv1 ?_
  walk_at"rd"
  refine Zao (by simp only[Rw.row];decide) ?_
  walk_at"rd"
  refine Zah rv1 ?_
  walk_at"rd"
  refine Zao (by simp only[Rw.row];decide) ?_
  walk_at"rd"
  refine Zah rv1 ?_
  walk_at"rd"
  refine Zao (by simp only[Rw.row];decide) ?_
  walk_at"rd"
  refine Zah rv1 ?_
  walk_at"rd"
  refine ZaJ rfl ?_
  walk_at"rd"
  refine Zaz (n:=0) rv1 rfl rfl (Zak w2 (Za8 ok.1) ?_)
  walk_at"rd"
  by_cases h0:ZaL z.2.2.2 q < 0
  ·refine ZaJ h0 ?_
   walk_at"rd"
   refine ZfJ (l:=[.int q]) (t:=t) rv1 rfl ?_
   walk_at"rd"
   exact same t (by simp[eff,Rw.next,h0,Rw.own3,Rw.calc])
  ·refine Zao h0 ?_
   walk_at"rd"
   refine Zah rv1 ?_
   walk_at"rd"
   refine Zao (by simp only[Rw.row];decide) ?_
   walk_at"rd"
   refine Zah rv1 ?_
   walk_at"rd"
   refine Zao (by simp only[Rw.row];decide) ?_
   walk_at"rd"
   refine Zah rv1 ?_
   walk_at"rd"
   walk_at"mk";intro u hu
   refine ZfN (b:=false) Zag rfl rfl (by simp only[Rw.row];decide) ?_
   walk_at"rd"
   refine stay ?_ _ (Same.new hu)
   simp only[eff,Rw.next]
   rw[if_neg h0]
   rfl
 | put q n =>
  walk_at"rd"
  refine Zah rv1 ?_
  walk_at"rd"
  refine Zao (by simp only[Rw.row];decide) ?_
  walk_at"rd"
  refine Zah rv1 ?_
  walk_at"rd"
  refine Zao (by simp only[Rw.row];decide) ?_
  walk_at"rd"
  refine Zah rv1 ?_
  walk_at"rd"
  refine Zao (by simp only[Rw.row];decide) ?_
  walk_at"rd"
  refine Zah rv1 ?_
  walk_at"rd"
  refine Zao (by simp only[Rw.row];decide) ?_
  walk_at"rd"
  refine Zah rv1 ?_
  walk_at"rd"
  refine Zao (by simp only[Rw.row];decide) ?_
  walk_at"rd"
  refine Zah rv1 ?_
  walk_at"rd"
  refine Zao (by simp only[Rw.row];decide) ?_
  exact worthy rfl rfl (.inl ⟨_,_,rfl⟩) (by simp only[Rw.row];decide)
 | copy q q1 =>
  walk_at"rd"
  refine Zah rv1 ?_
  walk_at"rd"
  refine Zao (by simp only[Rw.row];decide) ?_
  walk_at"rd"
  refine Zah rv1 ?_
  walk_at"rd"
  refine Zao (by simp only[Rw.row];decide) ?_
  walk_at"rd"
  refine Zah rv1 ?_
  walk_at"rd"
  refine Zao (by simp only[Rw.row];decide) ?_
  walk_at"rd"
  refine Zah rv1 ?_
  walk_at"rd"
  refine Zao (by simp only[Rw.row];decide) ?_
  walk_at"rd"
  refine Zah rv1 ?_
  walk_at"rd"
  refine Zao (by simp only[Rw.row];decide) ?_
  walk_at"rd"
  refine Zah rv1 ?_
  walk_at"rd"
  refine Zao (by simp only[Rw.row];decide) ?_
  exact worthy rfl rfl (.inl ⟨_,_,rfl⟩) (by simp only[Rw.row];decide)
 | plus q q1 q2 =>
  walk_at"rd"
  refine Zah rv1 ?_
  walk_at"rd"
  refine Zao (by simp only[Rw.row];decide) ?_
  walk_at"rd"
  refine Zah rv1 ?_
  walk_at"rd"
  refine Zao (by simp only[Rw.row];decide) ?_
  walk_at"rd"
  refine Zah rv1 ?_
  walk_at"rd"
  refine Zao (by simp only[Rw.row];decide) ?_
  walk_at"rd"
  refine Zah rv1 ?_
  walk_at"rd"
  refine Zao (by simp only[Rw.row];decide) ?_
  walk_at"rd"
  refine Zah rv1 ?_
  walk_at"rd"
  refine Zao (by simp only[Rw.row];decide) ?_
  walk_at"rd"
  refine Zah rv1 ?_
  walk_at"rd"
  refine Zao (by simp only[Rw.row];decide) ?_
  exact worthy rfl rfl (.inl ⟨_,_,rfl⟩) (by simp only[Rw.row];decide)
 | less q q1 q2 =>
  walk_at"rd"
  refine Zah rv1 ?_
  walk_at"rd"
  refine Zao (by simp only[Rw.row];decide) ?_
  walk_at"rd"
  refine Zah rv1 ?_
  walk_at"rd"
  refine Zao (by simp only[Rw.row];decide) ?_
  walk_at"rd"
  refine Zah rv1 ?_
  walk_at"rd"
  refine Zao (by simp only[Rw.row];decide) ?_
  walk_at"rd"
  refine Zah rv1 ?_
  walk_at"rd"
  refine Zao (by simp only[Rw.row];decide) ?_
  walk_at"rd"
  refine Zah rv1 ?_
  walk_at"rd"
  refine Zao (by simp only[Rw.row];decide) ?_
  walk_at"rd"
  refine Zah rv1 ?_
  walk_at"rd"
  refine Zao (by simp only[Rw.row];decide) ?_
  exact worthy rfl rfl (.inl ⟨_,_,rfl⟩) (by simp only[Rw.row];decide)
 | times q q1 n =>
  walk_at"rd"
  refine Zah rv1 ?_
  walk_at"rd"
  refine Zao (by simp only[Rw.row];decide) ?_
  walk_at"rd"
  refine Zah rv1 ?_
  walk_at"rd"
  refine Zao (by simp only[Rw.row];decide) ?_
  walk_at"rd"
  refine Zah rv1 ?_
  walk_at"rd"
  refine Zao (by simp only[Rw.row];decide) ?_
  walk_at"rd"
  refine Zah rv1 ?_
  walk_at"rd"
  refine Zao (by simp only[Rw.row];decide) ?_
  walk_at"rd"
  refine Zah rv1 ?_
  walk_at"rd"
  refine Zao (by simp only[Rw.row];decide) ?_
  walk_at"rd"
  refine Zah rv1 ?_
  walk_at"rd"
  refine Zao (by simp only[Rw.row];decide) ?_
  exact worthy rfl rfl (.inl ⟨_,_,rfl⟩) (by simp only[Rw.row];decide)
 | take q =>
  walk_at"rd"
  refine Zah rv1 ?_
  walk_at"rd"
  refine Zao (by simp only[Rw.row];decide) ?_
  walk_at"rd"
  refine Zah rv1 ?_
  walk_at"rd"
  refine Zao (by simp only[Rw.row];decide) ?_
  walk_at"rd"
  refine Zah rv1 ?_
  walk_at"rd"
  refine Zao (by simp only[Rw.row];decide) ?_
  walk_at"rd"
  refine Zah rv1 ?_
  walk_at"rd"
  refine Zao (by simp only[Rw.row];decide) ?_
  walk_at"rd"
  refine Zah rv1 ?_
  walk_at"rd"
  refine Zao (by simp only[Rw.row];decide) ?_
  walk_at"rd"
  refine Zah rv1 ?_
  walk_at"rd"
  refine Zao (by simp only[Rw.row];decide) ?_
  refine worthy rfl rfl (.inr ⟨⟨_,rfl⟩,fun e=>?_⟩) (by simp only[Rw.row];decide)
  have:ZbO h z.2 (.take q)=some (.dry z.2.1 z.2.2.1):=if_pos e
  rw[this] at hend
  cases hend
 | call q g qs =>
  walk_at"rd"
  refine Zah rv1 ?_
  walk_at"rd"
  refine Zao (by simp only[Rw.row];decide) ?_
  walk_at"rd"
  refine Zah rv1 ?_
  walk_at"rd"
  refine Zao (by simp only[Rw.row];decide) ?_
  walk_at"rd"
  refine Zah rv1 ?_
  walk_at"rd"
  refine Zao (by simp only[Rw.row];decide) ?_
  walk_at"rd"
  refine Zah rv1 ?_
  walk_at"rd"
  refine Zao (by simp only[Rw.row];decide) ?_
  walk_at"rd"
  refine Zah rv1 ?_
  walk_at"rd"
  refine ZaJ rfl ?_
  obtain ⟨hq,⟨d2,g0,ed2,hl2⟩,hqs⟩:=ok
  have D2:=PO.2.2 d2 (mem_of_getElem? ed2)
  walk_at"rd"
  refine Zak (v:=.int (z.2.2.1+1)) w1 rfl ?_
  walk_at"rd"
  refine Zbh (k:=1) w1 rfl ?_
  obtain ⟨a2,o2⟩:=a1.rowG (z.2.2.1+1 - 1)
  have e2:[V.int z.2.1,V.int (z.2.2.1+1),V.ref z.1.2].set 1 (V.int (z.2.2.1+1 - 1))=[V.int z.2.1,V.int (z.2.2.1+1 - 1),V.ref z.1.2]:=rfl
  rw[e2]
  dsimp only at a2 o2
  rw[ow] at o2
  have t2:=o2.ts (by rw[<-ow];exact a1.notup)
  have rv2:=rv1.mono t2
  have pg2:=pg1.by (own':=ownA ps sf sn sl (gz++[z])) o2 t2 fun x hx=>.inl hx
  generalize upd H1 z.1.1 (.lst [.int z.2.1,.int (z.2.2.1+1 - 1),.ref z.1.2])=H2 at a2 o2 rv2 pg2 t2
  have ez:z.2.2.1+1 - 1=z.2.2.1:=by lia
  rw[ez] at a2
  have hh':({ h with frames:=gz.map (·.2)++[(z.2.1,z.2.2.1,z.2.2.2)] }:HS)=h:=by
   cases h
   simp at hfr
   subst hfr
   rfl
  have a2':SA ps sf sn sl (gz++[z]) H2 h ve:=by
   have:=a2
   rw[hh'] at this
   exact this
  obtain ⟨vs,hv,_,hl,hd⟩:=pg2
  have hlt:g.toNat < vs.length:=by rw[hl];exact (List.getElem?_eq_some_iff.mp ed2).1
  obtain ⟨t,q2,ys,et,h1,h2,_,rr⟩:=hd _ _ _ ed2 (getElem?_eq_getElem hlt)
  walk_at"rd"
  refine Zaz (n:=1) rv2 rfl rfl ?_
  refine Zak hv (Zaw (n:=g.toNat) (by lia) (getElem?_eq_getElem hlt)) ?_
  rw[et]
  refine Zb4 h1 rfl ?_
  walk_at"rd"
  refine ⟨.inl ⟨rfl,_,SqL.of a2'.fl⟩,?_⟩
  walk_at"rd"
  refine Zaz (n:=1) rv2 rfl rfl ?_
  walk_at"rd"
  refine Zfw (n:=3) rv2 rfl rfl fun vq rq=>?_
  refine ZfY rq fun aq xs eq ha rx=>?_
  have hlen:=rx.length
  rw[length_map] at hlen
  have hq1000:qs.length<=1000:=by have:=D2.t;have:=D2.b;lia
  have x2:=a2'.z2 (z:=z) (by simp)
  refine ZeI (xs:=xs) (Zcv (by lia)) (fun i ys σ H1=>H1=H2/\(∃ x1,σ=[x1,some (.ref z.1.2)])/\ys=((qs.take i).map (ZaL z.2.2.2)).map V.int) ⟨rfl,⟨none,rfl⟩,rfl⟩ (fun i ys σ H1 _ ⟨e,_⟩=>by rw[e];exact SqT.of ha) ?_ ?_
  ·rintro i x ys σ H3 hx hle hlt' ⟨rfl,⟨x1,rfl⟩,rfl⟩
   obtain ⟨dd',ed',rd'⟩:=rx.get' hx
   rw[getElem?_map] at ed'
   obtain ⟨qi,eqi,rfl⟩:=Option.map_eq_some_iff.mp ed'
   obtain rfl:=ZaK rd'
   walk_at"rd"
   refine Zak x2 (Za8 (hqs qi (mem_of_getElem? eqi))) ?_
   refine ⟨hlt',by simpa using hle,rfl,⟨_,rfl⟩,?_⟩
   rw[take_add_one,eqi]
   simp
  ·rintro ys' σ H3 hyl ⟨hH,⟨x1,rfl⟩,rfl⟩ pa hpa
   have hH:=hH.symm
   subst hH
   rw[<-hlen,take_length]
   have s3:=Same.new (o:=.lst ((qs.map (ZaL z.2.2.2)).map V.int)) hpa
   have ha3:upd H2 pa (.lst ((qs.map (ZaL z.2.2.2)).map V.int)) pa=some (.lst ((qs.map (ZaL z.2.2.2)).map V.int)):=Zag
   generalize upd H2 pa (HO.lst ((qs.map (ZaL z.2.2.2)).map V.int))=H3 at s3 ha3
   walk_at"rd"
   walk_at"mk";intro u0 hu0
   have s4:=Same.new (o:=.lst [.int 0]) hu0
   walk_at"rd"
   refine Zhj (k:=d2.boxes - d2.takes) Zag (by have:=D2.b;have:=D2.t;lia) (by have:=D2.b;have:=D2.t;lia) fun p2 hp2=>?_
   have s5:=Same.new (o:=.lst ((List.replicate (d2.boxes - d2.takes).toNat (0:Int)).map V.int)) hp2
   walk_at"rd"
   refine ZeE ((s4.trans s5) _ _ ha3) Zag (Za2 (by have:=D2.b;have:=D2.t;simp;lia)) fun bx hbx0=>?_
   have s6:=Same.new (o:=.lst ((qs.map (ZaL z.2.2.2)).map V.int++(List.replicate (d2.boxes - d2.takes).toNat (0:Int)).map V.int)) hbx0
   walk_at"rd"
   walk_at"mk";intro fr hfr0
   have s7:=Same.new (o:=.lst [.int g,.int 0,.ref bx]) hfr0
   have s36:=((s3.trans s4).trans s5).trans s6
   have s37:=s36.trans s7
   have nfb:fr≠bx:=fun e=>by subst e;rw[Zag] at hfr0;cases hfr0
   have hbxN:H2 bx=none:=((s3.trans s4).trans s5).free hbx0
   have hfrN:H2 fr=none:=s36.free hfr0
   have h7f:=Zag (H:=upd (upd (upd (upd H3 u0 (.lst [.int 0])) p2 (.lst ((List.replicate (d2.boxes - d2.takes).toNat (0:Int)).map V.int))) bx (.lst ((qs.map (ZaL z.2.2.2)).map V.int++(List.replicate (d2.boxes - d2.takes).toNat (0:Int)).map V.int))) fr (.lst [.int g,.int 0,.ref bx])) (a:=fr) (o:=.lst [.int g,.int 0,.ref bx])
   have a7:=a2'.mono s37
   have h7b:=s7 _ _ (Zag (H:=upd (upd H3 u0 (.lst [.int 0])) p2 (.lst ((List.replicate (d2.boxes - d2.takes).toNat (0:Int)).map V.int))) (a:=bx) (o:=.lst ((qs.map (ZaL z.2.2.2)).map V.int++(List.replicate (d2.boxes - d2.takes).toNat (0:Int)).map V.int)))
   have h7f':=Zag (H:=upd (upd (upd H3 u0 (.lst [.int 0])) p2 (.lst ((List.replicate (d2.boxes - d2.takes).toNat (0:Int)).map V.int))) bx (.lst ((qs.map (ZaL z.2.2.2)).map V.int++(List.replicate (d2.boxes - d2.takes).toNat (0:Int)).map V.int))) (a:=fr) (o:=.lst [.int g,.int 0,.ref bx])
   generalize upd (upd (upd (upd H3 u0 (HO.lst [V.int 0])) p2 (HO.lst ((List.replicate (d2.boxes - d2.takes).toNat (0:Int)).map V.int))) bx (HO.lst ((qs.map (ZaL z.2.2.2)).map V.int++(List.replicate (d2.boxes - d2.takes).toNat (0:Int)).map V.int))) fr (HO.lst [V.int g,V.int 0,V.ref bx])=H7 at s37 a7 h7b h7f'
   walk_at"rd"
   refine ZbM a7.fl (Nat.lt_of_le_of_lt (show ((gz++[z]).map fun z=>V.ref z.1.1).length<=1000 by simp;lia) (by decide)) ?_
   have hnf:Zb9 Pg g (qs.map (ZaL z.2.2.2))=(g,0,qs.map (ZaL z.2.2.2)++List.replicate (d2.boxes - d2.takes).toNat 0):=by
    unfold Zb9 ZbT
    rw[ed2]
    have:(d2.boxes - d2.takes).toNat=d2.boxes.toNat - (qs.map (ZaL z.2.2.2)).length:=by rw[length_map];have:=D2.t;lia
    rw[this]
    rfl
   obtain ⟨a8,o8⟩:=a7.push (f:=Zb9 Pg g (qs.map (ZaL z.2.2.2))) (by rw[hnf];exact h7f') (by rw[hnf];simpa using h7b) (SA.fresh a2' hfrN) (SA.fresh a2' hbxN) nfb
   walk_at"rd"
   refine k (gz++[z]++[((fr,bx),Zb9 Pg g (qs.map (ZaL z.2.2.2)))]) _ ?_ (((o1.trans o2 fun x hx=>.inl hx).trans (OSame.of s37) fun x hx=>.inl hx).trans o8 fun x hx=>.inl hx) fun x hx=>?_
   ·have e:Zer h (eff Pg (gz.map (·.2)) z.2 h.left h.news (.call q g qs))={ h with frames:=h.frames++[Zb9 Pg g (qs.map (ZaL z.2.2.2))] }:=by
     simp[Zer,eff,hfr]
    rw[e]
    exact a8
   ·rw[Zbi] at hx
    rcases mem_append.mp hx with hx|hx
    ·exact .inl hx
    ·have fresh0:∀ y,H2 y=none->y∉ownA ps sf sn sl (gz++[z])->H y=none:=fun y hy ny=>by
      cases e:H y with
      | none=>rfl
      | some o=>rw[o2 _ _ ny (o1 _ _ ny e)] at hy;cases hy
     simp only[mem_cons,not_mem_nil,or_false] at hx
     rcases hx with rfl|rfl
     ·exact .inr (fresh0 _ hfrN (SA.fresh a2' hfrN))
     ·exact .inr (fresh0 _ hbxN (SA.fresh a2' hbxN))
 | back q =>
  walk_at"rd"
  refine Zah rv1 ?_
  walk_at"rd"
  refine Zao (by simp only[Rw.row];decide) ?_
  walk_at"rd"
  refine Zah rv1 ?_
  walk_at"rd"
  refine Zao (by simp only[Rw.row];decide) ?_
  walk_at"rd"
  refine Zah rv1 ?_
  walk_at"rd"
  refine Zao (by simp only[Rw.row];decide) ?_
  walk_at"rd"
  refine Zah rv1 ?_
  walk_at"rd"
  refine Zao (by simp only[Rw.row];decide) ?_
  walk_at"rd"
  refine Zah rv1 ?_
  walk_at"rd"
  refine Zao (by simp only[Rw.row];decide) ?_
  walk_at"rd"
  refine Zah rv1 ?_
  walk_at"rd"
  refine ZaJ rfl ?_
  have hne:h.frames.length≠1:=fun e=>by
   have:ZbO h z.2 (.back q)=some (.back (ZaL z.2.2.2 q)):=if_pos e
   rw[this] at hend
   cases hend
  obtain ⟨gz0,wz,hgz0⟩:∃ gz0 w,gz=gz0++[w]:=by
   rcases eq_nil_or_concat gz with e|⟨l,x,e⟩
   ·rw[e] at hfr
    rw[hfr] at hne
    simp at hne
   ·exact ⟨l,x,by simpa using e⟩
  subst hgz0
  obtain ⟨d2,p2,g,qs,w0,ew,w10,erw,hp2⟩:=hw gz0 wz rfl
  walk_at"rd"
  refine ⟨.inl ⟨rfl,_,SqL.of a1.fl⟩,?_⟩
  refine ⟨sf,_,.ref z.1.1,rfl,rfl,a1.fl,by simp,?_⟩
  have edl:((gz0++[wz]++[((z.1,(z.2.1,z.2.2.1+1,z.2.2.2)):FZ)]).map fun z=>V.ref z.1.1).dropLast=(gz0++[wz]).map fun z=>V.ref z.1.1:=by simp
  rw[edl]
  obtain ⟨a2,o2⟩:=a1.pop
  have w2':upd H1 sf (.lst ((gz0++[wz]).map fun z=>V.ref z.1.1)) z.1.2=some (.lst (z.2.2.2.map V.int)):=by
   rw[Zax (ne_pf a1.nd (z:=(z.1,(z.2.1,z.2.2.1+1,z.2.2.2))) (by simp)).1]
   exact w2
  rw[ow] at o2
  have t2:=o2.ts (by rw[<-ow];exact a1.notup)
  have rv2:=rv1.mono t2
  have pg2:=pg1.by (own':=ownA ps sf sn sl (gz0++[wz]++[z])) o2 t2 fun x hx=>.inl hx
  generalize upd H1 sf (.lst ((gz0++[wz]).map fun z=>V.ref z.1.1))=H2 at a2 o2 rv2 pg2 t2 w2'
  have y1:=a2.z1 (z:=wz) (by simp)
  have y2:=a2.z2 (z:=wz) (by simp)
  walk_at"rd"
  refine Zak a2.fl Zdb ?_
  walk_at"rd"
  refine Zaz (n:=0) rv2 rfl rfl (Zak w2' (Za8 ok) ?_)
  walk_at"rd"
  refine Zak (v:=.ref wz.1.2) y1 rfl ?_
  walk_at"rd"
  obtain ⟨vs,hv,_,hl,hd⟩:=pg2
  have hlt:wz.2.1.toNat < vs.length:=by rw[hl];exact (List.getElem?_eq_some_iff.mp ew).1
  obtain ⟨t,q2,ys,et,h1,h2,_,rr⟩:=hd _ _ _ ew (getElem?_eq_getElem hlt)
  refine Zak (v:=.int wz.2.1) y1 rfl ?_
  refine Zak hv (Zaw (n:=wz.2.1.toNat) (by lia) (getElem?_eq_getElem hlt)) ?_
  rw[et]
  walk_at"rd"
  refine Zaq (v:=.ref q2) h1 rfl ?_
  walk_at"rd"
  refine Zak (v:=.int wz.2.2.1) y1 rfl ?_
  obtain ⟨u,eu,ru⟩:=rr.get (i:=wz.2.2.1.toNat) (d:=rowD (Rw.call p2 g qs).row) (by unfold ZdN;rw[getElem?_map,erw];rfl)
  refine Zak h2 (Zaw (n:=wz.2.2.1.toNat) (by lia) eu) ?_
  walk_at"rd"
  refine Zaz (n:=0) ru rfl rfl ?_
  have hq:p2.toNat < wz.2.2.2.length:=by have:=hp2.1;have:=hp2.2;lia
  refine Zbh (k:=p2.toNat) y2 (ZgF (by have:=hp2.1;lia) (by rw[length_map];exact hq)) ?_
  rw[Zdp]
  obtain ⟨a3,o3⟩:=a2.boxG (Zbz wz.2.2.2 p2 (ZaL z.2.2.2 q))
  have x1:=a3.z1 (z:=(wz.1,(wz.2.1,wz.2.2.1,Zbz wz.2.2.2 p2 (ZaL z.2.2.2 q)))) (by simp)
  walk_at"rd"
  refine Zak (v:=.int wz.2.2.1) x1 rfl ?_
  walk_at"rd"
  refine Zbh (k:=1) x1 rfl ?_
  obtain ⟨a4,o4⟩:=a3.rowG (wz.2.2.1+1)
  have ow2:ownA ps sf sn sl (gz0++[((wz.1,(wz.2.1,wz.2.2.1,Zbz wz.2.2.2 p2 (ZaL z.2.2.2 q))):FZ)])=ownA ps sf sn sl (gz0++[wz]):=ZjA rfl
  rw[ow2] at o4
  have up:∀ x∈ownA ps sf sn sl (gz0++[wz]),x∈ownA ps sf sn sl (gz0++[wz]++[z]):=fun x hx=>by rw[Zbi (fz:=gz0++[wz])];exact mem_append_left _ hx
  refine k (gz0++[(wz.1,(wz.2.1,wz.2.2.1+1,Zbz wz.2.2.2 p2 (ZaL z.2.2.2 q)))]) _ ?_ (((o1.trans o2 fun x hx=>.inl hx).trans o3 fun x hx=>.inl (up x hx)).trans o4 fun x hx=>.inl (up x hx)) fun x hx=>.inl ?_
  ·have hra:ZbL Pg wz.2.1 wz.2.2.1=some (.call p2 g qs):=by unfold ZbL;rw[ew];exact erw
   have e:Zer h (eff Pg ((gz0++[wz]).map (·.2)) z.2 h.left h.news (.back q))={ ({ ({ h with frames:=(gz0++[wz]).map (·.2) }:HS) with frames:=gz0.map (·.2)++[(wz.2.1,wz.2.2.1,Zbz wz.2.2.2 p2 (ZaL z.2.2.2 q))] }:HS) with frames:=gz0.map (·.2)++[(wz.2.1,wz.2.2.1+1,Zbz wz.2.2.2 p2 (ZaL z.2.2.2 q))] }:=by
    simp[Zer,eff,hra]
   rw[e]
   exact a4
  ·exact up x (Zhz hx)
inductive Pr_stepG (x y:V) (H:Hp) (Q:VK):Prop
 | mk (pp P ps sf sn sl gz h ve) (_:x=.ref pp) (_:y=.ref ps) (_:PgAt (ownA ps sf sn sl gz) H P pp) (_:SA ps sf sn sl gz H h ve) (_:PgOk P) (_:HsOk P h) (_:h.fin=none) (_:h.gone<=900) (_:∀ gz' ve' H',SA ps sf sn sl gz' H' (h.go P) ve'->OSame (ownA ps sf sn sl gz) H H'->(∀ x∈ownA ps sf sn sl gz',x∈ownA ps sf sn sl gz\/H x=none)->Q .non H'):Pr_stepG x y H Q
def ZcW:Sp:=sp2 (Pr_stepG)
theorem sc__law_step:FnScope ["program","state","frames","f","at","boxes","row"] ["program","state"] (Zan Zc2):=by walk_at"fs"
theorem ZhP (B:Blt mg) (T__law_step:TopFn K mg "_law_step" Zc2 ["program","state"]) (ZeC:Callee P w K mg base "_law_goes" 2 ["program","state","row","boxes"] ZfG):Callee P w K mg base "_law_step" 3 ["program","state"] ZcW:=by
 refine T__law_step.ok2 sc__law_step fun f cdv A outer s H v1 v2 Q E hr hh=>?_
 have nd:=sc__law_step.nd
 have hu:=hr.units
 obtain ⟨pp,Pg,ps,sf,sn,sl,gz,h,ve,rfl,rfl,pg,a,PO,HO,hf,hg,k⟩:=hh
 refine' ZaB [some (.ref pp),some (.ref ps),none,none,none,none,none] rfl ?hb ?hg
 case hb=>exact (Zaf (Zbd (i:=2) nd rfl (Or.inl rfl) (Zai (k_ix (K:=K) rfl) (pv 1) Zaa (fun _ _=>rfl))) (Zaf (Za3 (Zai (k_ix (K:=K) rfl) (pv 2) (Zcp ZbB Zaa) (fun _ _=>rfl)) (ZkR (K:=K) (n:=3) rfl rfl (ZaF (ZaA (i:=3) nd rfl (Or.inl rfl)) (ZaF (ZaA (i:=4) nd rfl (Or.inl rfl)) (ZaF (ZaA (i:=5) nd rfl (Or.inl rfl)) Zb5))))) (Zaf (Zbd (i:=6) nd rfl (Or.inl rfl) (Zai (k_ix (K:=K) rfl) (Zai (k_ix (K:=K) rfl) (Zai (k_ix (K:=K) rfl) (pv 0) (pv 3) (fun _ _=>rfl)) Zaa (fun _ _=>rfl)) (pv 4) (fun _ _=>rfl))) (Zal (ZaZ (PW.pt (Zbk (Zar ZaX (Zai (k_ix (K:=K) rfl) (pv 6) Zaa (fun _ _=>rfl)) Zat (Zau _)) (Zba (Zar (Zmu (K:=K) rfl hu) (Zai (k_ix (K:=K) rfl) (pv 1) Zaa (fun _ _=>rfl)) (ZaH Zad) (Zau _))))) (Zal (Za3 (Zap (Zab Zat (Zac (pv 3) (Zac (pv 4) Zad)))) (Zbq (pv 1) Zaa ZaO))) (Zal (ZaZ (PW.pt (Zbk (Zar ZaX (Zai (k_ix (K:=K) rfl) (pv 6) Zaa (fun _ _=>rfl)) Zat (Zau _)) (Zba (Zar ZaX (Zbb (ZdU (K:=K) rfl) (by rfl) B.b_len Zcu (Zac (pv 2) Zad)) Zaa (Zau _))))) (Zal (Za3 (Zap (Zab Zat (Zac (pv 3) (Zac (pv 4) Zad)))) (Zbq (pv 1) Zaa ZaO))) (Zal (ZaZ (PW.pt (Zbk (Zar ZaX (Zai (k_ix (K:=K) rfl) (pv 6) Zaa (fun _ _=>rfl)) Zat (Zau _)) (Zba (Zar ZaX (Zbb (ZdU (K:=K) rfl) (by rfl) B.b_len Zcu (Zac (pv 2) Zad)) Zaa (Zau _))))) (Zal (Za3 (Zap (Zab Zat (Zav (Zai (k_ix (K:=K) rfl) (pv 5) (Zai (k_ix (K:=K) rfl) (pv 6) Zaa (fun _ _=>rfl)) (fun _ _=>rfl)) Zad))) (Zbq (pv 1) Zaa ZaO))) (Zaf (Za3 (ZaN Zbx (Zai (k_ix (K:=K) rfl) (pv 1) Zaa (fun _ _=>rfl)) Zaa) (Zbq (pv 1) Zaa ZaO)) (Zal (Zbm (ZaS ZeC hr.m (by rfl) (Zac (pv 0) (Zac (pv 1) (Zac (pv 6) (Zac (pv 5) Zad)))))))))))))))))
 obtain ⟨gz0,z,hz⟩:∃ gz0 z,gz=gz0++[z]:=by
  rcases eq_nil_or_concat gz with e|⟨l,x,e⟩
  ·have:=a.fr
   rw[e] at this
   exact absurd this.symm HO.ne
  ·exact ⟨l,x,by simpa using e⟩
 subst hz
 have hfr:h.frames=gz0.map (·.2)++[z.2]:=by rw[<-a.fr];simp
 have hfl:h.frames.length=gz0.length+1:=by rw[hfr];simp
 have z1:=a.z1 (z:=z) (by simp)
 have z2:=a.z2 (z:=z) (by simp)
 have FO:=HO.fr z.2 (by rw[hfr];simp)
 obtain ⟨d,f0,ed,hat,hbx⟩:=FO.ex
 have hlt:z.2.2.1.toNat < d.rows.length:=by have:=hat.1;have:=hat.2;lia
 have er:d.rows[z.2.2.1.toNat]?=some d.rows[z.2.2.1.toNat]:=getElem?_eq_getElem hlt
 generalize d.rows[z.2.2.1.toNat]=r at er
 have hra:ZbL Pg z.2.1 z.2.2.1=some r:=by unfold ZbL;rw[ed];exact er
 have DO:=PO.2.2 d (mem_of_getElem? ed)
 have ok:r.Ok Pg z.2.2.2.length d.rows.length:=by rw[hbx];exact DO.rows r (mem_of_getElem? er)
 have hgo:=goEq hf hfr hra
 have mu:=Zlx FO hg
 have few:=HO.few
 obtain ⟨vs,hv,npp,hl,hd⟩:=id pg
 have hlv:z.2.1.toNat < vs.length:=by rw[hl];exact (List.getElem?_eq_some_iff.mp ed).1
 obtain ⟨t,q2,ys,et,h1,h2,_,rr⟩:=hd _ _ _ ed (getElem?_eq_getElem hlv)
 obtain ⟨v,ev,rv⟩:=rr.get (i:=z.2.2.1.toNat) (d:=rowD r.row) (by unfold ZdN;rw[getElem?_map,er];rfl)
 walk_at"rd"
 refine Zak (v:=.ref sf) a.obj rfl ?_
 walk_at"rd"
 refine Zak a.fl Zdb ?_
 refine Zl0 z1 rfl ?_
 walk_at"rd"
 refine Zak hv (Zaw (n:=z.2.1.toNat) (by lia) (getElem?_eq_getElem hlv)) ?_
 rw[et]
 walk_at"rd"
 refine Zaq (v:=.ref q2) h1 rfl ?_
 walk_at"rd"
 refine Zak (v:=v) h2 (Zaw (n:=z.2.2.1.toNat) (by have:=hat.1;lia) ev) ?_
 have ends:∀ (e:En) (H1:Hp) (u:V),ZbO h z.2 r=some e->Same H H1->Rep H1 (En.d (some e)) u->Zco (.ref ps) (.int 4) u H1 fun H2=>Q .non H2:=by
  intro e H1 u he s1 re
  have a1:=a.mono s1
  refine Zbh (k:=4) a1.obj rfl ?_
  obtain ⟨a2,o2⟩:=a1.endG re
  refine k (gz0++[z]) u _ ?_ ((OSame.of s1).trans o2 fun x hx=>.inl hx) fun x hx=>.inl hx
  rw[hgo,he]
  exact a2
 have goon:∀ H1,Same H H1->ZbO h z.2 r=none->(tSeq (tAsg (tOp (rI0 fun i j=>.int (i+j)) (tOp (rIxA K) (tVar 1) (tC (.int 3))) (tC (.int 1))) (gSub (tVar 1) (tC (.int 3)) Zco)) (ZdI (ZaQ ZfG [] E0 (Zae (tVar 0) (Zae (tVar 1) (Zae (tVar 6) (Zae (tVar 5) tNil))))))) { nx:=fun _ H'=>Q .non H',rt:=Q } [some (.ref pp),some (.ref ps),some (.ref sf),some (.int z.2.1),some (.int z.2.2.1),some (.ref z.1.2),some v] H1:=by
  intro H1 s1 he
  have a1:=a.mono s1
  walk_at"rd"
  refine Zak (v:=.int h.gone) a1.obj rfl ?_
  walk_at"rd"
  refine Zbh (k:=3) a1.obj rfl ?_
  obtain ⟨a2,o2⟩:=a1.goneG (h.gone+1)
  have t2:=o2.ts a1.notup
  have e2:[V.ref sf,V.ref sl,V.ref sn,V.int h.gone,ve].set 3 (V.int (h.gone+1))=[V.ref sf,V.ref sl,V.ref sn,V.int (h.gone+1),ve]:=rfl
  rw[e2]
  have o12:=(OSame.of (own:=ownA ps sf sn sl (gz0++[z])) s1).trans o2 fun x hx=>.inl hx
  have t12:=s1.ts.trans t2
  generalize upd H1 ps (.lst [.ref sf,.ref sl,.ref sn,.int (h.gone+1),ve])=H2 at a2 o2 t2 o12 t12
  walk_at"rd"
  refine use4 ⟨pp,Pg,ps,sf,sn,sl,gz0,z,_,ve,d,r,rfl,rfl,rv.mono t12,rfl,pg.by o12 t12 (fun x hx=>.inl hx),a2,PO,f0,ed,er,hbx,mu,?_,?_,by lia,?_,fun gz' H' a3 o3 f3=>?_⟩
  ·have:ZbO { h with gone:=h.gone+1 } z.2 r=ZbO h z.2 r:=by cases r <;> rfl
   rw[this];exact he
  ·have:=HO.sz
   show h.news.length<=200000
   lia
  ·intro gz1 w e
   subst e
   obtain ⟨p2,g,qs,hrw⟩:=HO.wait gz1.length w.2 (by rw[hfr];simp) (by rw[hfr];simp)
   have FW:=HO.fr w.2 (by rw[hfr];simp)
   obtain ⟨dw,w0,ew,wat,wbx⟩:=FW.ex
   have erw:dw.rows[w.2.2.1.toNat]?=some (.call p2 g qs):=by
    unfold ZbL at hrw;rw[ew] at hrw;exact hrw
   have okw:=(PO.2.2 dw (mem_of_getElem? ew)).rows _ (mem_of_getElem? erw)
   exact ⟨dw,p2,g,qs,w0,ew,wat.1,erw,by rw[wbx];exact okw.1⟩
  ·walk_at"rd"
   refine k gz' ve H' ?_ (o12.trans o3 fun x hx=>.inl hx) fun x hx=>?_
   ·rw[hgo,he]
    exact a3
   ·rcases f3 x hx with m|m
    ·exact .inl m
    ·by_cases mx:x∈ownA ps sf sn sl (gz0++[z])
     ·exact .inl mx
     ·refine .inr ?_
      cases e:H x with
      | none=>rfl
      | some o=>rw[o12 _ _ mx e] at m;cases m
 by_cases ht:r.row.1="take"
 ·cases r with
  | take q =>
   walk_at"rd"
   refine Zah rv ?_
   walk_at"rd"
   refine ZaJ rfl ?_
   walk_at"rd"
   refine Zak (v:=.ref sl) a.obj rfl ?_
   walk_at"rd"
   walk_at"mk";intro u hu0
   have s1:=Same.new (o:=.lst (([]:List Int).map V.int)) hu0
   refine Zl1 (ns:=h.left) (ms:=[]) (SqL.of ((a.mono s1).ll)) (SqL.of Zag) ?_
   walk_at"rd"
   by_cases hl0:h.left=[]
   ·refine ZaJ hl0 ?_
    walk_at"rd"
    walk_at"mk";intro u2 hu2
    walk_at"rd"
    exact ends (.dry z.2.1 z.2.2.1) _ _ (if_pos hl0) (s1.trans (Same.new hu2)) (ZbA Zag (Zas (by rw[Rep]) (Zas ZaR (Zas ZaR ZaM))))
   ·refine Zao hl0 ?_
    have rv1:=rv.mono s1.ts
    walk_at"rd"
    refine Zah rv1 ?_
    walk_at"rd"
    refine Zao (by simp only[Rw.row];decide) ?_
    walk_at"rd"
    refine Zah rv1 ?_
    walk_at"rd"
    refine Zao (by simp only[Rw.row];decide) ?_
    exact goon _ s1 (if_neg hl0)
  | _=>exact absurd ht (by simp only[Rw.row];decide)
 ·walk_at"rd"
  refine Zah rv ?_
  walk_at"rd"
  refine Zao ht ?_
  by_cases hc:r.row.1="call"
  ·cases r with
   | call q g qs =>
    walk_at"rd"
    refine Zah rv ?_
    walk_at"rd"
    refine ZaJ rfl ?_
    walk_at"rd"
    refine ZbD (SqL.of a.fl) ?_
    walk_at"rd"
    by_cases h20:((((gz0++[z]).map fun z=>V.ref z.1.1).length:Nat):Int)=20
    ·refine ZaJ h20 ?_
     walk_at"rd"
     walk_at"mk";intro u2 hu2
     walk_at"rd"
     exact ends (.deep z.2.1 z.2.2.1) _ _ (if_pos (by simp at h20;lia)) (Same.new hu2) (ZbA Zag (Zas (by rw[Rep]) (Zas ZaR (Zas ZaR ZaM))))
    ·refine Zao h20 ?_
     walk_at"rd"
     refine Zah rv ?_
     walk_at"rd"
     refine Zao (by simp only[Rw.row];decide) ?_
     exact goon _ (Same.refl _) (if_neg (by simp at h20;lia))
   | _=>exact absurd hc (by simp only[Rw.row];decide)
  ·walk_at"rd"
   refine Zah rv ?_
   walk_at"rd"
   refine Zao hc ?_
   by_cases hb:r.row.1="back"
   ·cases r with
    | back q =>
     walk_at"rd"
     refine Zah rv ?_
     walk_at"rd"
     refine ZaJ rfl ?_
     walk_at"rd"
     refine ZbD (SqL.of a.fl) ?_
     walk_at"rd"
     by_cases h1':((((gz0++[z]).map fun z=>V.ref z.1.1).length:Nat):Int)=1
     ·refine ZaJ h1' ?_
      walk_at"rd"
      refine Zaz (n:=0) rv rfl rfl (Zak z2 (Za8 ok) ?_)
      walk_at"rd"
      walk_at"mk";intro u2 hu2
      walk_at"rd"
      exact ends (.back (ZaL z.2.2.2 q)) _ _ (if_pos (by rw[hfl];rw[length_map,length_append,length_singleton] at h1';lia)) (Same.new hu2) (ZbA Zag (Zas (by rw[Rep]) (Zas ZaR ZaM)))
     ·refine Zao h1' ?_
      exact goon _ (Same.refl _) (if_neg (by rw[hfl];rw[length_map,length_append,length_singleton] at h1';lia))
    | _=>exact absurd hb (by simp only[Rw.row];decide)
   ·walk_at"rd"
    refine Zah rv ?_
    walk_at"rd"
    refine Zao hb ?_
    refine goon _ (Same.refl _) ?_
    cases r with
    | take q=>exact absurd rfl ht
    | call q g qs=>exact absurd rfl hc
    | back q=>exact absurd rfl hb
    | _=>rfl
structure Nw (H0 H:Hp) (l:List (Addr×HO)):Prop where
 sm:Same H0 H
 all:AllAt H l
 nd:(l.map (·.1)).Nodup
 fresh:∀ x∈l.map (·.1),H0 x=none
theorem Nw.nil (H:Hp):Nw H H []:=⟨Same.refl _,fun _ h=>(by cases h),by simp,fun _ h=>(by cases h)⟩
theorem Nw.add {H0 H:Hp} {l:List (Addr×HO)} {a:Addr} {o:HO} (n:Nw H0 H l) (h:H a=none):Nw H0 (upd H a o) ((a,o)::l):=by
 have s:=Same.new (o:=o) h
 refine ⟨n.sm.trans s,fun e he=>?_,?_,fun x hx=>?_⟩
 ·rcases mem_cons.mp he with rfl|he
  ·exact Zag
  ·exact s _ _ (n.all e he)
 ·rw[map_cons,nodup_cons]
  refine ⟨fun m=>?_,n.nd⟩
  obtain ⟨e,he,hea⟩:=mem_map.mp m
  have hea':e.1=a:=hea
  rw[<-hea',n.all e he] at h;cases h
 ·rcases mem_cons.mp hx with rfl|hx
  ·exact n.sm.free h
  ·exact n.fresh x hx
inductive Pr_begun (K:W.Frag) (x y:V) (H:Hp) (Q:VK):Prop
 | mk (own P pp q ns) (_:x=.ref pp) (_:y=.ref q) (_:PgAt own H P pp) (_:PgOk P) (_:H q=some (.lst ((ns:List Int).map V.int))) (_:∀ ps sf sn sl gz H',Same H H'->SA ps sf sn sl gz H' (ZeJ P ns) .non->(∀ x∈ownA ps sf sn sl gz,H x=none)->Q (.ref ps) H'):Pr_begun K x y H Q
def ZcY (K:W.Frag):Sp:=sp2 (Pr_begun K)
theorem sc__law_begun:FnScope ["program","inputs"] ["program","inputs"] (Zan ZcF):=by walk_at"fs"
theorem Zg3 (B:Blt mg) (T__law_begun:TopFn K mg "_law_begun" ZcF ["program","inputs"]):Callee P w K mg base "_law_begun" 1 ["program","inputs"] (ZcY K):=by
 refine T__law_begun.ok2 sc__law_begun fun f cdv A outer s H v1 v2 Q E hr hh=>?_
 have nd:=sc__law_begun.nd
 obtain ⟨own,Pg,pp,q,ns,rfl,rfl,⟨vs,hv,_,hl,hd⟩,PO,hq,k⟩:=hh
 refine' ZaB [some (.ref pp),some (.ref q)] rfl ?hb ?hg
 case' hb=>refine' Zal ?bab
 case' bab=>refine' Zay ?bac
 case' bac=>refine' ZaH ?bad
 case' bad=>refine' Zbs ?bae ?baf
 case bae=>exact (ZaH (Zbs (ZaH (Zab Zaa (Zab Zaa (Zc9 (ZaN Zh7 (ZaH (Zab Zaa Zad)) (Zai (k_ix (K:=K) rfl) (Zai (k_ix (K:=K) rfl) (pv 0) Zaa (fun _ _=>rfl)) Zaa (fun _ _=>rfl))) Zad)))) Zad))
 case baf=>exact (Za4 (Zbf (ZdT (K:=K) rfl) (by rfl) B.b_list ZdZ (Zac (pv 1) Zad)) (Zbs (ZaH Zad) (Zab Zaa (Zab Zcr Zad))))
 obtain ⟨d0,ed0⟩:∃ d0,Pg[0]?=some d0:=⟨Pg[0]'(by have:=PO.1;exact length_pos_iff.mpr this),getElem?_eq_getElem _⟩
 have D0:=PO.2.2 d0 (mem_of_getElem? ed0)
 have db:=D0.b
 have hlt:0 < vs.length:=by rw[hl];exact (List.getElem?_eq_some_iff.mp ed0).1
 obtain ⟨t,q2,ys,et,h1,h2,_,rr⟩:=hd _ _ _ ed0 (getElem?_eq_getElem hlt)
 walk_at"rd"
 walk_at"mk";intro u0 hu0
 have M1:=(Nw.nil H).add (o:=.lst [.int 0]) hu0
 walk_at"rd"
 refine Zak (M1.sm _ _ hv) (Zaw (n:=0) rfl (getElem?_eq_getElem hlt)) ?_
 rw[et]
 walk_at"rd"
 refine Zaq (v:=.int d0.boxes) (M1.sm _ _ h1) rfl ?_
 refine Zhj (k:=d0.boxes) Zag (by lia) (by lia) fun bx hbx=>?_
 have M2:=M1.add (o:=.lst ((List.replicate d0.boxes.toNat (0:Int)).map V.int)) hbx
 walk_at"rd"
 walk_at"mk";intro fr hfr
 have M3:=M2.add (o:=.lst [.int 0,.int 0,.ref bx]) hfr
 walk_at"rd"
 walk_at"mk";intro sf hsf
 have M4:=M3.add (o:=.lst [.ref fr]) hsf
 walk_at"rd"
 refine Zc7 (.inl (SqL.of (M4.sm _ _ hq))) fun sl hsl=>?_
 have M5:=M4.add (o:=.lst (ns.map V.int)) hsl
 walk_at"rd"
 walk_at"mk";intro sn hsn
 have M6:=M5.add (o:=.lst []) hsn
 walk_at"rd"
 walk_at"mk";intro ps hps
 have M7:=M6.add (o:=.lst [.ref sf,.ref sl,.ref sn,.int 0,.non]) hps
 generalize upd (upd (upd (upd (upd (upd (upd H u0 (HO.lst [V.int 0])) bx (HO.lst ((List.replicate d0.boxes.toNat (0:Int)).map V.int))) fr (HO.lst [V.int 0,V.int 0,V.ref bx])) sf (HO.lst [V.ref fr])) sl (HO.lst (ns.map V.int))) sn (HO.lst [])) ps (HO.lst [V.ref sf,V.ref sl,V.ref sn,V.int 0,V.non])=H7 at M7
 have hnf:Zb9 Pg 0 []=(0,0,List.replicate d0.boxes.toNat 0):=by
  unfold Zb9 ZbT
  rw[show (0:Int).toNat=0 from rfl,ed0]
  rfl
 have hown:ownA ps sf sn sl [((fr,bx),Zb9 Pg 0 [])]=[ps,sf,sn,sl,fr,bx]:=rfl
 have fr7:=M7.fresh
 simp only[map_cons,map_nil,mem_cons,not_mem_nil,or_false] at fr7
 refine k ps sf sn sl [((fr,bx),Zb9 Pg 0 [])] H7 M7.sm ⟨fun e he=>?_,?_,?_,rfl⟩ fun x hx=>?_
 ·have ha:=M7.all
  rw[hnf] at he
  simp only[Zeg,ZeJ,ZbS,map_cons,map_nil,flatMap_cons,flatMap_nil,append_nil,cons_append,nil_append,mem_cons,not_mem_nil,or_false] at he
  rcases he with rfl|rfl|rfl|rfl|rfl|rfl
  ·exact ha (ps,_) (by simp)
  ·exact ha (sf,_) (by simp)
  ·exact ha (sn,_) (by simp)
  ·exact ha (sl,_) (by simp)
  ·exact ha (fr,_) (by simp)
  ·exact ha (bx,_) (by simp)
 ·rw[hown]
  have hnd:=M7.nd
  simp only[map_cons,map_nil,nodup_cons,mem_cons,not_mem_nil,or_false,not_or,not_false_iff,nodup_nil,and_true] at hnd ⊢
  obtain ⟨⟨a1,a2,a3,a4,a5,a6⟩,⟨b1,b2,b3,b4,b5⟩,⟨e1,e2,e3,e4⟩,⟨f1,f2,f3⟩,⟨h1,h2⟩,i1⟩:=hnd
  exact ⟨⟨a3,a1,a2,a4,a5⟩,⟨fun z=>b2 z.symm,fun z=>e1 z.symm,f1,f2⟩,⟨b1,b3,b4⟩,⟨e2,e3⟩,h1⟩
 ·show Rep H7 (En.d none) V.non
  simp only[En.d]
  rw[Rep]
 ·rw[hown] at hx
  simp only[mem_cons,not_mem_nil,or_false] at hx
  rcases hx with z|z|z|z|z|z
  all_goals exact fr7 x (by simp[z])
def goN (P:List Df):Nat->HS->HS
 | 0,h=>h
 | n+1,h=>goN P n (h.go P)
theorem ZmE {P:List Df} {ns:List Int} {i:Nat}:∀ (n:Nat),goN P n (hit P ns i)=hit P ns (i+n):=fun n=>by
 induction n generalizing i with
 | zero=>rfl
 | succ n ih =>
  show goN P n (hit P ns (i+1))=_
  rw[ih,Nat.add_right_comm]
  rfl
def f47 (fs:List Fr) (fr:Fr) (L N:List Int) (g:Int):HS:=⟨fs++[fr],L,N,g,none⟩
theorem go47 {P:List Df} {fs:List Fr} {fr:Fr} {L N:List Int} {g:Int} {rw:Rw} (hr:ZbL P fr.1 fr.2.1=some rw) (he:ZbO (f47 fs fr L N g) fr rw=none):(f47 fs fr L N g).go P=Zer { f47 fs fr L N g with gone:=g+1 } (eff P fs fr L N rw):=by
 have:=ZmD (Pg:=P) (h:=f47 fs fr L N g) (fs:=fs) (fr:=fr) (r:=rw) rfl rfl hr
 rw[he] at this
 exact this
theorem Zdf {ws:List Int} {i:Int}:wF ws (ofW i)=ws.getD i.toNat 0:=by
 show (0:Int)+(([(1,i)]:List (Int×Int)).map fun p=>p.1 * ws.getD p.2.toNat 0).sum=_
 simp
theorem wF_1 {ws:List Int} {n i:Int}:wF ws (n,[(1,i)])=n+ws.getD i.toNat 0:=by
 show n+(([(1,i)]:List (Int×Int)).map fun p=>p.1 * ws.getD p.2.toNat 0).sum=_
 simp
theorem Zkq {ws:List Int} (h:(ws.length:Int)=3):∃ a b c,ws=[a,b,c]:=by
 rcases ws with _|⟨a,_|⟨b,_|⟨c,_|⟨d,r⟩⟩⟩⟩
 ·simp at h
 ·simp at h
 ·simp at h
 ·exact ⟨a,b,c,rfl⟩
 ·simp at h;lia
theorem ran_on {P:List Df} {ns:List Int} {most:Int} {j n:Nat} (rn:Ran P ns most j) (hf:(hit P ns j).fin=none) (hg:(hit P ns j).gone+n<=most) (hg2:(hit P ns (j+n)).gone=(hit P ns j).gone+n):Ran P ns most (j+n):=by
 have:=rn.gone hf
 exact ⟨by lia,fun _=>by rw[hg2,this];push_cast;rfl⟩
theorem big47 {g:Int} {x:Int} (hg:g<=900) (h:x.natAbs<=10 ^ 60 * 100 ^ g.toNat):x.natAbs<=10 ^ 1900:=by
 refine Nat.le_trans h (Nat.le_trans (Nat.mul_le_mul_left _ (Nat.pow_le_pow_right (by decide) (show g.toNat<=900 by lia))) ?_)
 decide +kernel
theorem up47 {x y z:Int} (hx:x.natAbs<=10 ^ 1900) (hy:y.natAbs<=10 ^ 60) (h:z.natAbs<=x.natAbs+y.natAbs):z.natAbs<=10 ^ 2000:=by
 refine Nat.le_trans h (Nat.le_trans (Nat.add_le_add hx hy) ?_)
 decide +kernel
def x50 (w:Nat):Rw:=if w=5 then .copy 2 0 else .call 2 2 [0,1]
def Ze2 (c:Int):List Rw:=[.put 0 c,.put 1 1,.call 2 1 [0,1],.tell 2,.back 2]
def Zdr (w:Nat):List Rw:=[.zero 0 5,.less 0 0 1,x50 w,.call 2 1 [0,1],.jump 6,.back 1,.plus 2 2 0,.back 2]
def ZkZ:List Rw:=[.plus 0 0 1,.call 1 3 [0],.back 1]
def Zeo (w:Nat):List Rw:=[.call 1 4 [0],.back ((w % 2:Nat):Int)]
def ZhX:List Rw:=[.tell 0,.times 0 0 (-2),.back 0]
def P50 (c:Int) (w:Nat):List Df:=[⟨0,3,Ze2 c⟩,⟨2,3,Zdr w⟩,⟨2,2,ZkZ⟩,⟨1,2,Zeo w⟩,⟨1,1,ZhX⟩]
theorem pg50 {c:Int} {w:Nat} (hc:c.natAbs<=10 ^ 60):PgOk (P50 c w):=by
 have hq2:∀ q∈([0,1]:List Int),In0 q 3:=fun q hq=>by
  simp only[mem_cons,not_mem_nil,or_false] at hq
  rcases hq with rfl|rfl
  ·exact ⟨by decide,by decide⟩
  ·exact ⟨by decide,by decide⟩
 have hq1:∀ q∈([0]:List Int),In0 q 2:=fun q hq=>by
  rw[mem_singleton.mp hq];exact ⟨by decide,by decide⟩
 have c1:∃ d,(0:Int)<=1/\(P50 c w)[(1:Int).toNat]?=some d/\(([0,1]:List Int).length:Int)=d.takes:=⟨_,by decide,rfl,rfl⟩
 have c2:∃ d,(0:Int)<=2/\(P50 c w)[(2:Int).toNat]?=some d/\(([0,1]:List Int).length:Int)=d.takes:=⟨_,by decide,rfl,rfl⟩
 have c3:∃ d,(0:Int)<=3/\(P50 c w)[(3:Int).toNat]?=some d/\(([0]:List Int).length:Int)=d.takes:=⟨_,by decide,rfl,rfl⟩
 have c4:∃ d,(0:Int)<=4/\(P50 c w)[(4:Int).toNat]?=some d/\(([0]:List Int).length:Int)=d.takes:=⟨_,by decide,rfl,rfl⟩
 refine ⟨by simp[P50],by simp[P50],fun d hd=>?_⟩
 simp only[P50,mem_cons,not_mem_nil,or_false] at hd
 rcases hd with rfl|rfl|rfl|rfl|rfl
 ·refine ⟨⟨show (1:Int)<=3 by decide,show (3:Int)<=1000 by decide⟩,⟨show (0:Int)<=0 by decide,show (0:Int)<=3 by decide⟩,by show 5<=1000;decide,fun r hr=>?_,⟨.back 2,rfl,trivial⟩⟩
  show Rw.Ok (P50 c w) 3 ((5:Nat):Int) r
  have hr:r∈Ze2 c:=hr
  simp only[Ze2,mem_cons,not_mem_nil,or_false] at hr
  rcases hr with rfl|rfl|rfl|rfl|rfl
  ·exact ⟨⟨by decide,by decide⟩,hc⟩
  ·exact ⟨⟨by decide,by decide⟩,by decide⟩
  ·exact ⟨⟨by decide,by decide⟩,c1,hq2⟩
  ·exact ⟨by decide,by decide⟩
  ·exact ⟨by decide,by decide⟩
 ·refine ⟨⟨show (1:Int)<=3 by decide,show (3:Int)<=1000 by decide⟩,⟨show (0:Int)<=2 by decide,show (2:Int)<=3 by decide⟩,by show 8<=1000;decide,fun r hr=>?_,⟨.back 2,rfl,trivial⟩⟩
  show Rw.Ok (P50 c w) 3 ((8:Nat):Int) r
  have hr:r∈Zdr w:=hr
  simp only[Zdr,mem_cons,not_mem_nil,or_false] at hr
  rcases hr with rfl|rfl|rfl|rfl|rfl|rfl|rfl|rfl
  ·exact ⟨⟨by decide,by decide⟩,⟨by decide,by decide⟩⟩
  ·exact ⟨⟨by decide,by decide⟩,⟨by decide,by decide⟩,⟨by decide,by decide⟩⟩
  ·unfold x50
   by_cases h5:w=5
   ·rw[if_pos h5];exact ⟨⟨by decide,by decide⟩,⟨by decide,by decide⟩⟩
   ·rw[if_neg h5];exact ⟨⟨by decide,by decide⟩,c2,hq2⟩
  ·exact ⟨⟨by decide,by decide⟩,c1,hq2⟩
  ·exact ⟨by decide,by decide⟩
  ·exact ⟨by decide,by decide⟩
  ·exact ⟨⟨by decide,by decide⟩,⟨by decide,by decide⟩,⟨by decide,by decide⟩⟩
  ·exact ⟨by decide,by decide⟩
 ·refine ⟨⟨show (1:Int)<=2 by decide,show (2:Int)<=1000 by decide⟩,⟨show (0:Int)<=2 by decide,show (2:Int)<=2 by decide⟩,by show 3<=1000;decide,fun r hr=>?_,⟨.back 1,rfl,trivial⟩⟩
  show Rw.Ok (P50 c w) 2 ((3:Nat):Int) r
  have hr:r∈ZkZ:=hr
  simp only[ZkZ,mem_cons,not_mem_nil,or_false] at hr
  rcases hr with rfl|rfl|rfl
  ·exact ⟨⟨by decide,by decide⟩,⟨by decide,by decide⟩,⟨by decide,by decide⟩⟩
  ·exact ⟨⟨by decide,by decide⟩,c3,hq1⟩
  ·exact ⟨by decide,by decide⟩
 ·refine ⟨⟨show (1:Int)<=2 by decide,show (2:Int)<=1000 by decide⟩,⟨show (0:Int)<=1 by decide,show (1:Int)<=2 by decide⟩,by show 2<=1000;decide,fun r hr=>?_,⟨_,rfl,trivial⟩⟩
  show Rw.Ok (P50 c w) 2 ((2:Nat):Int) r
  have hr:r∈Zeo w:=hr
  simp only[Zeo,mem_cons,not_mem_nil,or_false] at hr
  rcases hr with rfl|rfl
  ·exact ⟨⟨by decide,by decide⟩,c4,hq1⟩
  ·exact ⟨by lia,by lia⟩
 ·refine ⟨⟨show (1:Int)<=1 by decide,show (1:Int)<=1000 by decide⟩,⟨show (0:Int)<=1 by decide,show (1:Int)<=1 by decide⟩,by show 3<=1000;decide,fun r hr=>?_,⟨.back 0,rfl,trivial⟩⟩
  show Rw.Ok (P50 c w) 1 ((3:Nat):Int) r
  have hr:r∈ZhX:=hr
  simp only[ZhX,mem_cons,not_mem_nil,or_false] at hr
  rcases hr with rfl|rfl|rfl
  ·exact ⟨by decide,by decide⟩
  ·exact ⟨⟨by decide,by decide⟩,⟨by decide,by decide⟩,by decide⟩
  ·exact ⟨by decide,by decide⟩
def w50:List Fm:=[ofW 0,ofW 1,ofW 2]
def ZbG:Fm:=(0,[(1,0),(1,1)])
def Za6:Fm:=(0,[(1,0),(-1,1)])
def Zes:Fm:=(0,[(-2,0),(-2,1)])
def Zcd (w:Nat):Fm:=if w % 2=0 then ZbG else Zes
def last50:List Fm:=[ofW 0,ofW 1,(1,[(1,2)])]
def pap50:List SF:=[(1,2,w50),(2,1,[ZbG,ofW 1]),(3,0,[ZbG,(0,[])]),(4,0,[ZbG])]
def ZdL:Edg:=⟨0,[ofW 0,ofW 1,(-1,[(1,2)])],1⟩
def no50 (w:Nat):Edg:=if w=5 then ⟨1,[Za6,ofW 1,(-1,[(1,2)])],2⟩ else ⟨5,[Za6,ofW 1,ofW 2],2⟩
def stA (w:Nat):Std:=⟨3,[(1,0,w50)],.test ZdL (no50 w)⟩
def stT (w:Nat):Std:=⟨3,pap50,.tell ⟨4,[ofW 0,ofW 1,Zcd w],3⟩⟩
def stC (w:Nat) (held:Int):Std:=if w=5 then ⟨3,[(1,2,last50)],.leave⟩ else if w=4 then ⟨3,pap50,.leave⟩ else if w=3 then ⟨3,pap50,.hold 1 held ⟨0,[ofW 0,(held,[]),ofW 2],4⟩⟩ else stT w
def stL (r:Int) (fs:List Fm):Std:=⟨3,[(1,r,fs)],.leave⟩
def Za7 (w:Nat) (held:Int):List Std:=if w=3 then [stA w,stL 5 last50,stC w held,stL 3 w50,stT w,stL 4 w50] else [stA w,stL 5 last50,stC w held,stL 3 w50,stL 4 w50]
def W50 (c:Int) (w:Nat) (held most:Int) (k:Nat) (ws:List Int) (h:HS):Prop:=h.fin=none/\h.frames.length<=17/\∃ st j,(Za7 w held)[k]?=some st/\(ws.length:Int)=3/\ledH h st ws=hit (P50 c w) [] j/\Ran (P50 c w) [] most j
theorem Zj9 {P:List Df} {fs:List Fr} {fr:Fr} {L N:List Int} {g p f:Int} {qs:List Int} (hr:ZbL P fr.1 fr.2.1=some (.call p f qs)) (h:fs.length < 19):(f47 fs fr L N g).go P=f47 (fs++[fr]) (Zb9 P f (qs.map (ZaL fr.2.2))) L N (g+1):=by
 rw[go47 hr (show (if 20<=(fs++[fr]).length then _ else _)=none by rw[if_neg (by simp;lia)])]
 show HS.mk (fs++[fr,Zb9 P f (qs.map (ZaL fr.2.2))]) L N (g+1) none=HS.mk (fs++[fr]++[Zb9 P f (qs.map (ZaL fr.2.2))]) L N (g+1) none
 rw[append_assoc]
 rfl
theorem Zkj {P:List Df} {fs:List Fr} {v fr:Fr} {L N:List Int} {g p p2 f:Int} {qs:List Int} (hr:ZbL P fr.1 fr.2.1=some (.back p)) (hv:ZbL P v.1 v.2.1=some (.call p2 f qs)):(f47 (fs++[v]) fr L N g).go P=f47 fs (v.1,v.2.1+1,Zbz v.2.2 p2 (ZaL fr.2.2 p)) L N (g+1):=by
 rw[go47 hr (show (if (fs++[v]++[fr]).length=1 then _ else _)=none by rw[if_neg (by simp)])]
 have e:eff P (fs++[v]) fr L N (.back p)=(fs++[(v.1,v.2.1+1,Zbz v.2.2 p2 (ZaL fr.2.2 p))],L,N):=by
  unfold eff
  rw[getLast?_concat]
  dsimp only
  rw[hv]
  dsimp only
  rw[dropLast_concat]
 rw[e]
 rfl
section
variable {c:Int} {w:Nat} {held most:Int}
theorem z50 {fs:List Fr} {a b e g:Int} {L N:List Int}:(f47 fs (1,0,[a,b,e]) L N g).go (P50 c w)=f47 fs (1,if a=0 then 5 else 0+1,[a,b,e]) L N (g+1):=go47 (rw:=.zero 0 5) rfl rfl
theorem l50 {fs:List Fr} {a b e g:Int} {L N:List Int}:(f47 fs (1,1,[a,b,e]) L N g).go (P50 c w)=f47 fs (1,1+1,[a - b,b,e]) L N (g+1):=go47 (rw:=.less 0 0 1) rfl rfl
theorem down50 {fs:List Fr} {a b e g:Int} {L N:List Int} (hw:w≠5) (ha:a≠0) (hl:fs.length<=16):goN (P50 c w) 6 (f47 fs (1,0,[a,b,e]) L N g)=f47 (fs++[(1,2,[a - b,b,e])]++[(2,1,[a - b+b,b])]++[(3,0,[a - b+b,0])]) (4,0,[a - b+b]) L N (g+6):=by
 have hx:ZbL (P50 c w) 1 2=some (.call 2 2 [0,1]):=by
  show some (x50 w)=_
  unfold x50
  rw[if_neg hw]
 have e4:(f47 (fs++[(1,2,[a - b,b,e])]) (2,0,[a - b,b]) L N (g+1+1+1)).go (P50 c w)=f47 (fs++[(1,2,[a - b,b,e])]) (2,0+1,[a - b+b,b]) L N (g+1+1+1+1):=go47 (rw:=.plus 0 0 1) rfl rfl
 show ((((((f47 fs (1,0,[a,b,e]) L N g).go (P50 c w)).go (P50 c w)).go (P50 c w)).go (P50 c w)).go (P50 c w)).go (P50 c w)=_
 rw[z50,if_neg ha]
 show (((((f47 fs (1,1,[a,b,e]) L N (g+1)).go (P50 c w)).go (P50 c w)).go (P50 c w)).go (P50 c w)).go (P50 c w)=_
 rw[l50]
 show ((((f47 fs (1,2,[a - b,b,e]) L N (g+1+1)).go (P50 c w)).go (P50 c w)).go (P50 c w)).go (P50 c w)=_
 rw[Zj9 hx (by lia)]
 show (((f47 (fs++[(1,2,[a - b,b,e])]) (2,0,[a - b,b]) L N (g+1+1+1)).go (P50 c w)).go (P50 c w)).go (P50 c w)=_
 rw[e4]
 show ((f47 (fs++[(1,2,[a - b,b,e])]) (2,1,[a - b+b,b]) L N (g+1+1+1+1)).go (P50 c w)).go (P50 c w)=_
 rw[Zj9 (p:=1) (f:=3) (qs:=[0]) rfl (by rw[length_append];show fs.length+1 < 19;lia)]
 show (f47 (fs++[(1,2,[a - b,b,e])]++[(2,1,[a - b+b,b])]) (3,0,[a - b+b,0]) L N (g+1+1+1+1+1)).go (P50 c w)=_
 rw[Zj9 (p:=1) (f:=4) (qs:=[0]) rfl (by rw[length_append,length_append];show fs.length+1+1 < 19;lia),show g+1+1+1+1+1+1=g+6 by lia]
 rfl
theorem up50 {fs:List Fr} {u v e x g:Int} {L N:List Int} (hw:w≠5):goN (P50 c w) 5 (f47 (fs++[(1,2,[u,v,e])]++[(2,1,[x,v])]++[(3,0,[x,0])]) (4,0,[x]) L N g)=f47 fs (1,3,[u,v,if w % 2=0 then x else x * (-2)]) L (N++[x]) (g+5):=by
 have hx:ZbL (P50 c w) 1 2=some (.call 2 2 [0,1]):=by
  show some (x50 w)=_
  unfold x50
  rw[if_neg hw]
 have e1:∀ fs:List Fr,(f47 fs (4,0,[x]) L N g).go (P50 c w)=f47 fs (4,0+1,[x]) L (N++[x]) (g+1):=fun fs=>go47 (rw:=.tell 0) rfl rfl
 have e2:∀ (fs:List Fr),(f47 fs (4,1,[x]) L (N++[x]) (g+1)).go (P50 c w)=f47 fs (4,1+1,[x * (-2)]) L (N++[x]) (g+1+1):=fun fs=>go47 (rw:=.times 0 0 (-2)) rfl rfl
 show (((((f47 (fs++[(1,2,[u,v,e])]++[(2,1,[x,v])]++[(3,0,[x,0])]) (4,0,[x]) L N g).go (P50 c w)).go (P50 c w)).go (P50 c w)).go (P50 c w)).go (P50 c w)=_
 rw[e1]
 show ((((f47 _ (4,1,[x]) L (N++[x]) (g+1)).go (P50 c w)).go (P50 c w)).go (P50 c w)).go (P50 c w)=_
 rw[e2]
 show (((f47 _ (4,2,[x * (-2)]) L (N++[x]) (g+1+1)).go (P50 c w)).go (P50 c w)).go (P50 c w)=_
 rw[Zkj (p:=0) (p2:=1) (f:=4) (qs:=[0]) rfl rfl]
 show ((f47 (fs++[(1,2,[u,v,e])]++[(2,1,[x,v])]) (3,1,[x,x * (-2)]) L (N++[x]) (g+1+1+1)).go (P50 c w)).go (P50 c w)=_
 rw[Zkj (p:=((w % 2:Nat):Int)) (p2:=1) (f:=3) (qs:=[0]) rfl rfl]
 have eb:ZaL [x,x * (-2)] ((w % 2:Nat):Int)=if w % 2=0 then x else x * (-2):=by
  have:=Nat.mod_two_eq_zero_or_one w
  rcases this with h|h <;> rw[h] <;> rfl
 show (f47 (fs++[(1,2,[u,v,e])]) (2,2,[x,ZaL [x,x * (-2)] ((w % 2:Nat):Int)]) L (N++[x]) (g+1+1+1+1)).go (P50 c w)=_
 rw[eb,Zkj (p:=1) (p2:=2) (f:=2) (qs:=[0,1]) rfl hx,show g+1+1+1+1+1=g+5 by lia]
 rfl
end
end
end My
end
section
namespace My
open PySem L2
section
variable {P:Program} {w:World} {K:W.Frag} {mg:Str->Option Value} {base:Heap}
def fmB (n:Int) (f:Fm):Bool:=decide (f.2.length<=1000) && f.2.all fun p=>decide (p.1.natAbs<=9) && (decide (0<=p.2) && decide (p.2 < n))
theorem ZgL {n:Nat} {f:Fm} (h:fmB n f=true):FmO n f:=by
 unfold fmB at h
 simp only[Bool.and_eq_true,decide_eq_true_eq,all_eq_true] at h
 exact ⟨h.1,fun p hp=>⟨Nat.le_trans (h.2 p hp).1 (Nat.le_trans (show 9<=10 ^ 1 by decide) (Nat.pow_le_pow_right (by decide) (by decide))),(h.2 p hp).2.1,(h.2 p hp).2.2⟩⟩
def papB (n:Int) (pa:List SF):Bool:=decide (pa.length<=100) && pa.all fun s=>decide (s.2.2.length<=100) && s.2.2.all (fmB n)
theorem Zgr {P:List Df} {st:Std} {ws:List Int} {ps:List SF} {s:SF} {d:Df} {r:Rw} (hp:papB ws.length st.paper=true) (wo:WsO ws) (e1:st.paper=ps++[s]) (e2:0<=s.1) (e3:P[s.1.toNat]?=some d) (e4:0<=s.2.1) (e5:d.rows[s.2.1.toNat]?=some r) (e6:st.deed.fits r) (e7:st.deed.asks=true->0<=r.box1/\r.box1.toNat < s.2.2.length) (e8:∀ w n e,st.deed=.hold w n e->0<=w/\w.toNat < ws.length):SOk P st ws:=by
 unfold papB at hp
 simp only[Bool.and_eq_true,decide_eq_true_eq,all_eq_true] at hp
 exact ⟨⟨ps,s,d,r,e1,e2,e3,e4,e5,e6,e7⟩,hp.1,fun s hs=>⟨(hp.2 s hs).1,fun f hf=>ZgL ((hp.2 s hs).2 f hf)⟩,wo,e8⟩
theorem Zil {e:Edg} {n:Nat} (h:(decide (e.moves.length<=1000) && e.moves.all (fmB n))=true) (hk:0<=e.k):EOk e n:=by
 simp only[Bool.and_eq_true,decide_eq_true_eq,all_eq_true] at h
 exact ⟨h.1,fun f hf=>ZgL (h.2 f hf),hk⟩
inductive Hd50 (st:Std):Prop
 | mk (f r n rest) (_:st.paper=(f,r,[ofW 0,ofW 1,(n,[(1,2)])])::rest) (_:n.natAbs<=1):Hd50 st
section
variable {c:Int} {w:Nat} {held most:Int}
theorem Zgj (hw:w<=5):(w=5/\stC w held=stL 2 last50)\/(w=4/\stC w held=⟨3,pap50,.leave⟩)\/(w=3/\stC w held=⟨3,pap50,.hold 1 held ⟨0,[ofW 0,(held,[]),ofW 2],4⟩⟩)\/(w < 3/\stC w held=stT w):=by
 unfold stC stL
 by_cases h5:w=5
 ·exact .inl ⟨h5,if_pos h5⟩
 rw[if_neg h5]
 by_cases h4:w=4
 ·exact .inr (.inl ⟨h4,if_pos h4⟩)
 rw[if_neg h4]
 by_cases h3:w=3
 ·exact .inr (.inr (.inl ⟨h3,if_pos h3⟩))
 rw[if_neg h3]
 exact .inr (.inr (.inr ⟨by lia,rfl⟩))
inductive At50 (w:Nat) (held:Int) (k:Nat):Std->Prop
 | door (hk:k=0):At50 w held k (stA w)
 | leave (r:Int) (fs:List Fm) (h:(r=5/\fs=last50)\/((r=3\/r=4)/\fs=w50)\/(w=5/\r=2/\fs=last50)):At50 w held k (stL r fs)
 | far (h:w=4):At50 w held k ⟨3,pap50,.leave⟩
 | hold (hk:k=2) (h:w=3):At50 w held k ⟨3,pap50,.hold 1 held ⟨0,[ofW 0,(held,[]),ofW 2],4⟩⟩
 | tell (h:w<=3) (hk:w=3->k≠2):At50 w held k (stT w)
theorem Zct (hw:w<=5) {k:Nat} {st:Std} (e:(Za7 w held)[k]?=some st):At50 w held k st:=by
 have hC:k=2->At50 w held k (stC w held):=fun hk=>by
  rcases Zgj (held:=held) hw with ⟨a,b⟩|⟨a,b⟩|⟨a,b⟩|⟨a,b⟩ <;> rw[b]
  ·exact .leave 2 last50 (.inr (.inr ⟨a,rfl,rfl⟩))
  ·exact .far a
  ·exact .hold hk a
  ·exact .tell (by lia) (fun z=>by lia)
 unfold Za7 at e
 by_cases h3:w=3
 ·rw[if_pos h3] at e
  match k,e with
  | 0,e=>cases e;exact .door rfl
  | 1,e=>cases e;exact .leave 5 last50 (.inl ⟨rfl,rfl⟩)
  | 2,e=>cases e;exact hC rfl
  | 3,e=>cases e;exact .leave 3 w50 (.inr (.inl ⟨.inl rfl,rfl⟩))
  | 4,e=>cases e;exact .tell (by lia) fun _=>by decide
  | 5,e=>cases e;exact .leave 4 w50 (.inr (.inl ⟨.inr rfl,rfl⟩))
  | k+6,e=>cases e
 ·rw[if_neg h3] at e
  match k,e with
  | 0,e=>cases e;exact .door rfl
  | 1,e=>cases e;exact .leave 5 last50 (.inl ⟨rfl,rfl⟩)
  | 2,e=>cases e;exact hC rfl
  | 3,e=>cases e;exact .leave 3 w50 (.inr (.inl ⟨.inl rfl,rfl⟩))
  | 4,e=>cases e;exact .leave 4 w50 (.inr (.inl ⟨.inr rfl,rfl⟩))
  | k+5,e=>cases e
theorem hd50 (hw:w<=5) {k:Nat} {st:Std} (e:(Za7 w held)[k]?=some st):Hd50 st:=by
 cases Zct hw e with
 | door hk=>exact ⟨1,0,0,[],rfl,by decide⟩
 | leave r fs h =>
  rcases h with ⟨_,rfl⟩|⟨_,rfl⟩|⟨_,_,rfl⟩
  ·exact ⟨1,r,1,[],rfl,by decide⟩
  ·exact ⟨1,r,0,[],rfl,by decide⟩
  ·exact ⟨1,r,1,[],rfl,by decide⟩
 | far h=>exact ⟨1,2,0,_,rfl,by decide⟩
 | hold hk h=>exact ⟨1,2,0,_,rfl,by decide⟩
 | tell h hk=>exact ⟨1,2,0,_,rfl,by decide⟩
theorem Zhb {a b e:Int}:wF [a,b,e] ZbG=a+b:=by
 show (0:Int)+(([(1,0),(1,1)]:List (Int×Int)).map fun p=>p.1 * [a,b,e].getD p.2.toNat 0).sum=_
 simp
theorem ZhU {a b e:Int}:wF [a,b,e] Za6=a - b:=by
 show (0:Int)+(([(1,0),(-1,1)]:List (Int×Int)).map fun p=>p.1 * [a,b,e].getD p.2.toNat 0).sum=_
 simp
 lia
theorem Zkp {a b e:Int}:wF [a,b,e] (Zcd w)=if w % 2=0 then a+b else (a+b) * (-2):=by
 unfold Zcd
 by_cases h:w % 2=0
 ·rw[if_pos h,if_pos h,Zhb]
 ·rw[if_neg h,if_neg h]
  show (0:Int)+(([(-2,0),(-2,1)]:List (Int×Int)).map fun p=>p.1 * [a,b,e].getD p.2.toNat 0).sum=_
  simp
  lia
theorem ZfV {h:HS} {r n a b e:Int} {d:Dd} (hf:h.fin=none):ledH h ⟨3,[(1,r,[ofW 0,ofW 1,(n,[(1,2)])])],d⟩ [a,b,e]=f47 h.frames.dropLast (1,r,[a,b,n+e]) h.left h.news h.gone:=by
 unfold ledH f47
 show HS.mk (h.frames.dropLast++[((1:Int),r,[wF [a,b,e] (ofW 0),wF [a,b,e] (ofW 1),wF [a,b,e] (n,[(1,2)])])]) h.left h.news h.gone h.fin=_
 rw[Zdf,Zdf,wF_1,hf]
 rfl
theorem ZfU {h:HS} {a b e:Int} {d:Dd} (hf:h.fin=none):ledH h ⟨3,pap50,d⟩ [a,b,e]=f47 (h.frames.dropLast++[(1,2,[a,b,e])]++[(2,1,[a+b,b])]++[(3,0,[a+b,0])]) (4,0,[a+b]) h.left h.news h.gone:=by
 unfold ledH f47
 show HS.mk (h.frames.dropLast++[((1:Int),(2:Int),[wF [a,b,e] (ofW 0),wF [a,b,e] (ofW 1),wF [a,b,e] (ofW 2)]),(2,1,[wF [a,b,e] ZbG,wF [a,b,e] (ofW 1)]),(3,0,[wF [a,b,e] ZbG,wF [a,b,e] (0,[])]),(4,0,[wF [a,b,e] ZbG])]) h.left h.news h.gone h.fin=_
 rw[Zdf,Zdf,Zdf,Zhb,hf,append_assoc,append_assoc,append_assoc]
 rfl
theorem at3 (hw:w<=5):(Za7 w held)[3]?=some (stL 3 w50):=by
 unfold Za7
 by_cases h:w=3
 ·rw[if_pos h];rfl
 ·rw[if_neg h];rfl
theorem at2:(Za7 w held)[2]?=some (stC w held):=by
 unfold Za7
 by_cases h:w=3
 ·rw[if_pos h];rfl
 ·rw[if_neg h];rfl
theorem at1:(Za7 w held)[1]?=some (stL 5 last50):=by
 unfold Za7
 by_cases h:w=3
 ·rw[if_pos h];rfl
 ·rw[if_neg h];rfl
theorem ZlB (hc:c.natAbs<=10 ^ 60) (hh:held.natAbs<=10 ^ 60) (hw:w<=5) (hmo:most<=900):LGood (P50 c w) (Za7 w held) most (W50 c w held most) (fun k=>if k=2 then 1 else 0) 1:=by
 have PO:PgOk (P50 c w):=pg50 hc
 refine ⟨fun k=>by by_cases h:k=2 <;> simp[h],fun k ws h ⟨hf,hfl,st,j,est,hwl,hled,rn⟩=>⟨st,est,?_⟩⟩
 obtain ⟨HO,hgj⟩:=ZeH (ns:=[]) PO (fun x hx=>by cases hx) (by decide) j
 have hfj:(hit (P50 c w) [] j).fin=none:=by rw[<-hled];exact hf
 have hgg:(hit (P50 c w) [] j).gone=h.gone:=by rw[<-hled];rfl
 have hgm:=rn.gone hfj
 have hjm:=rn.le
 have h900:h.gone<=900:=by lia
 have hnews:h.news.length<=200000:=by
  have:=HO.sz
  rw[<-hled] at this
  have:h.left.length+h.news.length<=100000+h.gone.toNat:=this
  lia
 obtain ⟨a,b,e,rfl⟩:=Zkq hwl
 have hfs:h.frames.dropLast.length<=16:=by rw[length_dropLast];lia
 have hws:WsO [a,b,e]:=by
  obtain ⟨f,r,n,rest,hp,hn⟩:=hd50 hw est
  have hs:∀ x∈[a,b,n+e],x.natAbs<=10 ^ 1900:=fun x hx=>by
   have hm:((f,r,[a,b,n+e]):Fr)∈(hit (P50 c w) [] j).frames:=by
    rw[<-hled]
    show _∈h.frames.dropLast++st.paper.map (wSF [a,b,e])
    rw[hp,map_cons]
    refine mem_append_right _ (mem_cons.mpr (.inl ?_))
    show _=(f,r,[wF [a,b,e] (ofW 0),wF [a,b,e] (ofW 1),wF [a,b,e] (n,[(1,2)])])
    rw[Zdf,Zdf,wF_1]
    rfl
   exact big47 (by rw[hgg];exact h900) ((HO.fr _ hm).small x hx)
  have lift:∀ {x:Int},x.natAbs<=10 ^ 1900->x.natAbs<=10 ^ 2000:=fun h=>Nat.le_trans h (Nat.pow_le_pow_right (by decide) (by decide))
  refine ⟨by show 3<=1000;decide,fun z hz=>?_⟩
  simp only[mem_cons,not_mem_nil,or_false] at hz
  rcases hz with rfl|rfl|rfl
  ·exact lift (hs z (by simp))
  ·exact lift (hs z (by simp))
  ·exact up47 (y:=n) (hs (n+z) (by simp)) (Nat.le_trans hn (by decide)) (by lia)
 have on:∀ {st':Std} {k' n:Nat} {ws':List Int} {h':HS},h'.fin=none->h'.frames.length<=17->(Za7 w held)[k']?=some st'->(ws'.length:Int)=3->ledH h' st' ws'=goN (P50 c w) n (ledH h st [a,b,e])->h'.gone=h.gone+n->h.gone+n<=most->W50 c w held most k' ws' h':=fun {st' k' n ws' h'} x y b d e g0 g=>by
  rw[hled,ZmE] at e
  exact ⟨x,y,st',j+n,b,d,e,ran_on rn hfj (by rw[hgg];exact g) (by rw[<-e,hgg];exact g0)⟩
 cases Zct hw est with
 | door hk =>
  subst hk
  have hlr:ZfW (P50 c w) (stA w)=some (.zero 0 5):=rfl
  have hb:boxN (P50 c w) (stA w) [a,b,e]=a:=by
   unfold boxN
   rw[hlr]
   show wF [a,b,e] (ofW 0)=a
   rw[Zdf]
   rfl
  refine ⟨Zgr (ps:=[]) (s:=(1,0,w50)) (r:=.zero 0 5) rfl hws rfl (by show (0:Int)<=1;decide) rfl (by show (0:Int)<=0;decide) rfl (.inl ⟨0,5,rfl⟩) (fun _=>⟨by show (0:Int)<=0;decide,by show (0:Int).toNat < 3;decide⟩) (fun _ _ _ z=>by cases z),hnews,fun ed hed hy=>?_⟩
  have hea:Za1 (P50 c w) (stA w) [a,b,e]=some (if a=0 then ZdL else no50 w):=by
   show some (if ((ZfW (P50 c w) (stA w)).map fun r=>r.goes (boxN (P50 c w) (stA w) [a,b,e]))=some true then _ else _)=_
   rw[hlr,hb]
   show some (if some (decide (a=0))=some true then _ else _)=_
   by_cases h0:a=0
   ·simp[h0]
   ·simp[h0]
  rw[<-hed] at hy
  obtain ⟨ed',e1,hgr,_⟩:=ZfC hy
  rw[hed] at e1
  cases e1
  rw[hea] at hed
  have hled0:ledH h (stA w) [a,b,e]=f47 h.frames.dropLast (1,0,[a,b,e]) h.left h.news h.gone:=by
   rw[show stA w=⟨3,[(1,0,[ofW 0,ofW 1,(0,[(1,2)])])],.test ZdL (no50 w)⟩ from rfl,ZfV hf,Int.zero_add]
  by_cases h0:a=0
  ·rw[if_pos h0] at hed
   cases hed
   have hgr:h.gone+(0+1)<=most:=hgr
   refine ⟨Zil rfl (by show (0:Int)<=1;decide),hws,?_,.inl (by show (1:Int)<=0+1;decide)⟩
   refine on (st':=stL 5 last50) (n:=1) hf hfl at1 rfl ?_ (by show h.gone+(0+1)=_;push_cast;lia) (by push_cast;lia)
   show ledH _ (stL 5 last50) [wF [a,b,e] (ofW 0),wF [a,b,e] (ofW 1),wF [a,b,e] (-1,[(1,2)])]=(ledH h (stA w) [a,b,e]).go (P50 c w)
   rw[Zdf,Zdf,wF_1,hled0,z50,if_pos h0]
   rw[show stL 5 last50=⟨3,[(1,5,[ofW 0,ofW 1,(1,[(1,2)])])],.leave⟩ from rfl]
   rw[show [[a,b,e].getD (0:Int).toNat 0,[a,b,e].getD (1:Int).toNat 0,-1+[a,b,e].getD (2:Int).toNat 0]=[a,b,-1+e] from rfl,ZfV (h:=hA _ h (stA w) _ _) hf]
   show f47 h.frames.dropLast (1,5,[a,b,1+(-1+e)]) h.left h.news (h.gone+(0+1))=_
   rw[show 1+(-1+e)=e by lia,Int.zero_add]
  ·rw[if_neg h0] at hed
   cases hed
   by_cases h5:w=5
   ·have en:no50 w=⟨1,[Za6,ofW 1,(-1,[(1,2)])],2⟩:=if_pos h5
    rw[en] at hgr ⊢
    have hgr:h.gone+(1+1)<=most:=hgr
    refine ⟨Zil rfl (by show (0:Int)<=2;decide),hws,?_,.inl (by show (1:Int)<=1+1;decide)⟩
    refine on (st':=stC w held) (n:=2) hf hfl at2 rfl ?_ (by show h.gone+(1+1)=_;push_cast;lia) (by push_cast;lia)
    have eC:stC w held=⟨3,[(1,2,[ofW 0,ofW 1,(1,[(1,2)])])],.leave⟩:=if_pos h5
    rw[eC]
    show ledH _ _ [wF [a,b,e] Za6,wF [a,b,e] (ofW 1),wF [a,b,e] (-1,[(1,2)])]=((ledH h (stA w) [a,b,e]).go (P50 c w)).go (P50 c w)
    rw[ZhU,Zdf,wF_1,hled0,z50,if_neg h0]
    show ledH _ _ [a - b,b,-1+e]=(f47 h.frames.dropLast (1,1,[a,b,e]) h.left h.news (h.gone+1)).go (P50 c w)
    rw[l50,ZfV (h:=hA _ h (stA w) _ _) hf]
    show f47 h.frames.dropLast (1,2,[a - b,b,1+(-1+e)]) h.left h.news (h.gone+(1+1))=_
    rw[show 1+(-1+e)=e by lia,show h.gone+(1+1)=h.gone+1+1 by lia]
    rfl
   ·have en:no50 w=⟨5,[Za6,ofW 1,ofW 2],2⟩:=if_neg h5
    rw[en] at hgr ⊢
    have hgr:h.gone+(5+1)<=most:=hgr
    refine ⟨Zil rfl (by show (0:Int)<=2;decide),hws,?_,.inl (by show (1:Int)<=5+1;decide)⟩
    refine on (st':=stC w held) (n:=6) hf hfl at2 rfl ?_ (by show h.gone+(5+1)=_;push_cast;lia) (by push_cast;lia)
    obtain ⟨dd,eC⟩:∃ dd,stC w held=⟨3,pap50,dd⟩:=by
     rcases Zgj (held:=held) hw with ⟨a,b⟩|⟨a,b⟩|⟨a,b⟩|⟨a,b⟩
     ·exact absurd a h5
     ·exact ⟨_,b⟩
     ·exact ⟨_,b⟩
     ·exact ⟨_,b⟩
    rw[eC]
    show ledH _ _ [wF [a,b,e] Za6,wF [a,b,e] (ofW 1),wF [a,b,e] (ofW 2)]=_
    rw[ZhU,Zdf,Zdf,hled0,down50 h5 h0 hfs]
    show ledH _ _ [a - b,b,e]=_
    rw[ZfU (h:=hA _ h (stA w) _ _) hf]
    show f47 _ _ h.left h.news (h.gone+(5+1))=_
    rfl
 | leave r fs hr =>
  have hpb:papB (([a,b,e]:List Int).length:Nat) [((1:Int),r,fs)]=true:=by
   rcases hr with ⟨_,rfl⟩|⟨_,rfl⟩|⟨_,_,rfl⟩ <;> rfl
  have hr0:0<=r/\∃ rr,(Zdr w)[r.toNat]?=some rr:=by
   rcases hr with ⟨rfl,_⟩|⟨rfl|rfl,_⟩|⟨_,rfl,_⟩ <;> exact ⟨by decide,_,rfl⟩
  obtain ⟨hr0,rr,hrr⟩:=hr0
  exact ⟨Zgr (ps:=[]) (s:=(1,r,fs)) (d:=⟨2,3,Zdr w⟩) (r:=rr) hpb hws rfl (by show (0:Int)<=1;decide) rfl hr0 hrr trivial (fun z=>by cases z) (fun _ _ _ z=>by cases z),hnews,fun ed hed _=>by cases hed⟩
 | far h4 =>
  refine ⟨Zgr (ps:=[(1,2,w50),(2,1,[ZbG,ofW 1]),(3,0,[ZbG,(0,[])])]) (s:=(4,0,[ZbG])) (r:=.tell 0) rfl hws rfl (by show (0:Int)<=4;decide) rfl (by show (0:Int)<=0;decide) rfl trivial (fun z=>by cases z) (fun _ _ _ z=>by cases z),hnews,fun ed hed _=>by cases hed⟩
 | hold hk h3 =>
  refine ⟨Zgr (ps:=[(1,2,w50),(2,1,[ZbG,ofW 1]),(3,0,[ZbG,(0,[])])]) (s:=(4,0,[ZbG])) (r:=.tell 0) rfl hws rfl (by show (0:Int)<=4;decide) rfl (by show (0:Int)<=0;decide) rfl trivial (fun z=>by cases z) (fun x _ _ z=>by cases z;exact ⟨by decide,by show (1:Int).toNat < 3;decide⟩),hnews,fun ed hed hy=>?_⟩
  cases hed
  have hy:(if b=held then (if most < h.gone+0 then some (Str.ofString "short") else none) else some (Str.ofString "fall"))=none:=hy
  have hb:b=held:=by
   by_cases z:b=held
   ·exact z
   ·rw[if_neg z] at hy;cases hy
  rw[if_pos hb] at hy
  have hgm:h.gone+0<=most:=by
   by_cases z:most < h.gone+0
   ·rw[if_pos z] at hy;cases hy
   ·lia
  refine ⟨Zil rfl (by show (0:Int)<=4;decide),hws,?_,.inr ⟨rfl,by rw[hk];exact Nat.zero_lt_one⟩⟩
  refine on (st':=stT w) (n:=0) hf hfl (by unfold Za7;rw[if_pos h3];rfl) rfl ?_ (by show h.gone+0=_;rfl) (by simpa using hgm)
  show ledH _ (stT w) [wF [a,b,e] (ofW 0),wF [a,b,e] (held,[]),wF [a,b,e] (ofW 2)]=ledH h _ [a,b,e]
  rw[Zdf,Zdf,show wF [a,b,e] (held,[])=held by show held+0=held;lia,ZfU hf]
  show ledH _ ⟨3,pap50,_⟩ [a,held,e]=_
  rw[ZfU (h:=hA _ h _ _ _) hf,<- hb]
  show f47 _ _ h.left h.news (h.gone+0)=_
  rw[Int.add_zero]
  rfl
 | tell h3 hk =>
  have hlr:ZfW (P50 c w) (stT w)=some (.tell 0):=rfl
  have hb:boxN (P50 c w) (stT w) [a,b,e]=a+b:=by
   unfold boxN
   rw[hlr]
   show wF [a,b,e] ZbG=a+b
   exact Zhb
  refine ⟨Zgr (ps:=[(1,2,w50),(2,1,[ZbG,ofW 1]),(3,0,[ZbG,(0,[])])]) (s:=(4,0,[ZbG])) (r:=.tell 0) rfl hws rfl (by show (0:Int)<=4;decide) rfl (by show (0:Int)<=0;decide) rfl ⟨0,rfl⟩ (fun _=>⟨by show (0:Int)<=0;decide,by show (0:Int).toNat < 1;decide⟩) (fun _ _ _ z=>by cases z),hnews,fun ed hed hy=>?_⟩
  cases hed
  have hy:(if most < h.gone+(4+1) then some (Str.ofString "short") else none)=none:=hy
  have hgm:h.gone+(4+1)<=most:=by
   by_cases z:most < h.gone+(4+1)
   ·rw[if_pos z] at hy;cases hy
   ·lia
  have hg:fmB 3 (Zcd w)=true:=by
   unfold Zcd
   by_cases z:w % 2=0
   ·rw[if_pos z];rfl
   ·rw[if_neg z];rfl
  refine ⟨⟨by show 3<=1000;decide,fun f hf=>?_,by show (0:Int)<=3;decide⟩,hws,?_,.inl (by show (1:Int)<=4+1;decide)⟩
  ·simp only[mem_cons,not_mem_nil,or_false] at hf
   rcases hf with rfl|rfl|rfl
   ·exact ZgL rfl
   ·exact ZgL rfl
   ·exact ZgL hg
  refine on (st':=stL 3 w50) (n:=5) hf hfl (at3 hw) rfl ?_ (by show h.gone+(4+1)=_;push_cast;lia) (by push_cast;lia)
  show ledH _ (stL 3 w50) [wF [a,b,e] (ofW 0),wF [a,b,e] (ofW 1),wF [a,b,e] (Zcd w)]=goN (P50 c w) 5 (ledH h ⟨3,pap50,_⟩ [a,b,e])
  rw[Zdf,Zdf,Zkp,ZfU hf,up50 (by lia),show stL 3 w50=⟨3,[(1,3,[ofW 0,ofW 1,(0,[(1,2)])])],.leave⟩ from rfl]
  show ledH _ _ [a,b,_]=_
  rw[ZfV (h:=hA _ h (stT w) _ _) hf,Int.zero_add]
  show f47 h.frames.dropLast _ h.left (h.news++[boxN (P50 c w) (stT w) [a,b,e]]) (h.gone+(4+1))=_
  rw[hb]
  rfl
end
end
end My
end
section
namespace My
open PySem L2
section
variable {P:Program} {w:World} {K:W.Frag} {mg:Str->Option Value} {base:Heap}
theorem Ziu {bx:List Int}:(Zdh bx.length).map (wF bx)=bx:=by
 unfold Zdh
 rw[Int.toNat_natCast,map_map]
 refine ext_getElem (by simp) fun i h1 h2=>?_
 rw[getElem_map,getElem_range]
 show wF bx (ofW (i:Int))=_
 rw[Zdf,Int.toNat_natCast,getD_eq_getElem?_getD,getElem?_eq_getElem h2]
 rfl
theorem Zk3 {P:List Df} {h:HS} {st:Std} {fs:List Fr} {fr:Fr} (hd:ZbE P st=true) (hp:plc st=(fr.1,fr.2.1)) (e:h.frames=fs++[fr]) (hl:(fr.2.2.length:Int)=st.many):ledH h st fr.2.2=h:=by
 unfold ZbE at hd
 match hpa:st.paper with
 | []=>rw[hpa] at hd;cases hd
 | [s] =>
  rw[hpa] at hd
  have hd:=of_decide_eq_true hd
  unfold plc at hp
  rw[hpa] at hp
  unfold ledH
  rw[e,dropLast_concat,hpa]
  have e1:s.1=fr.1:=congrArg Prod.fst hp
  have e2:s.2.1=fr.2.1:=congrArg Prod.snd hp
  have e3:wSF fr.2.2 s=fr:=by
   show (s.1,s.2.1,s.2.2.map (wF fr.2.2))=fr
   rw[hd.2,<- hl,Ziu,e1,e2]
  show HS.mk (fs++[wSF fr.2.2 s]) h.left h.news h.gone h.fin=h
  rw[e3,<- e]
 | s::s2::r=>rw[hpa] at hd;cases hd
theorem ZkV {P:List Df} (PO:PgOk P):∀ j,(hit P [] j).fin=none->(hit P [] j).gone=j:=by
 intro j
 induction j with
 | zero=>intro _;rfl
 | succ j ih =>
  intro hf
  have hf0:(hit P [] j).fin=none:=by
   cases hz:(hit P [] j).fin with
   | none=>rfl
   | some e =>
    have:=ZfZ hz 1
    rw[this,hz] at hf
    cases hf
  rw[Zii PO (ZeH PO (fun x hx=>by cases hx) (by decide) j).1 hf,ih hf0]
  push_cast
  rfl
theorem Zk5 {P:List Df} {sts:List Std} {pl:Int×Int} {k:Nat} (h:dAt P sts pl=some k):∃ st,sts[k]?=some st/\ZbE P st=true/\plc st=pl:=by
 unfold dAt at h
 obtain ⟨hk,hp,_⟩:=findIdx?_eq_some_iff_getElem.mp h
 rw[Bool.and_eq_true,decide_eq_true_eq] at hp
 exact ⟨_,getElem?_eq_getElem hk,hp.1,hp.2⟩
section
variable {c:Int} {w:Nat} {held most:Int}
theorem Zly (hw:w<=5) {k:Nat} {st:Std} (e:(Za7 w held)[k]?=some st):st.many=3:=by
 cases Zct hw e <;> rfl
theorem sim50 (hc:c.natAbs<=10 ^ 60) (hw:w<=5):LSim (P50 c w) (Za7 w held) most [] (W50 c w held most):=by
 have PO:PgOk (P50 c w):=pg50 hc
 refine ⟨fun j fs fr k hf hg hfr hroom hd=>?_,fun k ws h st ⟨_,_,st',j,est,_,hled,rn⟩ es=>?_⟩
 ·obtain ⟨st,est,hdr,hpl⟩:=Zk5 hd
  obtain ⟨HO,_⟩:=ZeH (ns:=[]) PO (fun x hx=>by cases hx) (by decide) j
  have hgj:=ZkV PO j hf
  have hm:=Zly hw est
  obtain ⟨f,r,n,rest,hpa,_⟩:=hd50 hw est
  have e1:fr.1=f:=by
   unfold plc at hpl
   rw[hpa] at hpl
   exact (congrArg Prod.fst hpl).symm
  have hlen:(fr.2.2.length:Int)=st.many:=by
   obtain ⟨d,f0,ed,hat,hbx⟩:=(HO.fr fr (by rw[hfr];simp)).ex
   unfold ZbE at hdr
   rw[hpa] at hdr
   cases rest with
   | cons s2 r2=>cases hdr
   | nil =>
    have:=(of_decide_eq_true hdr).1
    rw[this,hbx]
    show d.boxes=ZbT (P50 c w) f
    rw[<-e1]
    unfold ZbT
    rw[ed]
    rfl
  exact ⟨hf,hroom,st,j,est,by rw[hlen,hm],Zk3 hdr hpl hfr hlen,⟨by lia,fun _=>hgj⟩⟩
 ·rw[est] at es
  cases es
  exact ⟨j,hled,rn⟩
theorem dok50 (hw:w<=5):∀ st∈Za7 w held,DOk (P50 c w) st:=by
 intro st hst
 obtain ⟨k,hk⟩:=mem_iff_getElem?.mp hst
 have hm:=Zly hw hk
 have ok:papB 3 st.paper=true->(∀ s,st.paper=[s]->s.1=1)->DOk (P50 c w) st:=fun hp hs=>by
  unfold papB fmB at hp
  simp only[Bool.and_eq_true,decide_eq_true_eq,all_eq_true] at hp
  exact ⟨by rw[hm];exact ⟨by decide,by decide⟩,fun s hs f hf=>((hp.2 s hs).2 f hf).1,fun s e=>by rw[hs s e];exact ⟨by decide,_,rfl⟩,hp.1⟩
 cases Zct hw hk with
 | door _=>exact ok rfl fun s e=>by cases e;rfl
 | leave r fs h =>
  refine ok ?_ fun s e=>by cases e;rfl
  rcases h with ⟨_,rfl⟩|⟨_,rfl⟩|⟨_,_,rfl⟩ <;> rfl
 | far _=>exact ok rfl fun s e=>by cases e
 | hold _ _=>exact ok rfl fun s e=>by cases e
 | tell _ _=>exact ok rfl fun s e=>by cases e
end
theorem LRun.det {P:List Df} {sts:List Std} {most:Int} {bs:List Bool} {h h1 h2:HS} {k k1 k2 n n1 n2:Nat} {ws:List Int} {y1 y2:Str} (r1:LRun P sts most bs h k ws n h1 y1 k1 n1) (r2:LRun P sts most bs h k ws n h2 y2 k2 n2):h1=h2/\y1=y2/\k1=k2/\n1=n2:=by
 induction r1 with
 | called e b =>
  cases r2 with
  | called e' b'=>rw[e] at e';cases e';exact ⟨rfl,rfl,rfl,rfl⟩
  | left e' b' w=>rw[b] at b';cases b'
  | on e' b' ee w r=>rw[b] at b';cases b'
 | left e b w =>
  cases r2 with
  | called e' b'=>rw[b] at b';cases b'
  | left e' b' w'=>rw[e] at e';cases e';rw[w] at w';cases w';exact ⟨rfl,rfl,rfl,rfl⟩
  | on e' b' ee w' r=>rw[e] at e';cases e';rw[w] at w';cases w'
 | on e b ee w r ih =>
  cases r2 with
  | called e' b'=>rw[b] at b';cases b'
  | left e' b' w'=>rw[e] at e';cases e';rw[w] at w';cases w'
  | on e' b' ee' w' r' =>
   rw[e] at e';cases e'
   rw[ee] at ee';cases ee'
   exact ih r'
end
end My
end
section
namespace My
open PySem L2
section
variable {P:Program} {w:World} {K:W.Frag} {mg:Str->Option Value} {base:Heap}
variable {C CC:Addr}
theorem mk_T {xs:List V} {H:Hp} {Q:VK} {ds:List D} (hl:xs.length<=PySem.sizeLine) (r:Reps H ds xs) (k:∀ p H',Same H H'->Rep H' (.tup ds) (.ref p)->Q (.ref p) H'):NewT xs H Q :=
 ⟨hl,fun p hp=>k p _ (Same.new hp) (ZbA Zag (r.mono (Same.new hp).ts))⟩
theorem Zku {H:Hp} {z:Str}:Rep H (.str z) (.str z):=by rw[Rep]
theorem mk_L {xs:List V} {H:Hp} {Q:VK} (hl:xs.length<=PySem.sizeLine) (k:∀ p H',Same H H'->H p=none->H' p=some (.lst xs)->Q (.ref p) H'):NewL xs H Q :=
 ⟨hl,fun p hp=>k p _ (Same.new hp) hp Zag⟩
local macro_rules | `(tactic| walk_at"ddy") => `(tactic| repeat (first | exact ZgS | exact Zin | exact ZgQ | exact Zim | exact dt_subV rfl | exact Zfb rfl ZaR | exact Zfb rfl (by assumption) | exact ZeP rfl (by assumption) (by assumption) | exact ZmJ rfl (by assumption) (by rfl) (by assumption) | refine ZdY ?_ ?_ | refine ZgP ?_))
theorem sc__law_under:FnScope ["form","words"] ["form","words"] (Zan ZcD):=by walk_at"fs"
theorem Zg1 (B:Blt mg) (T__law_under:TopFn K mg "_law_under" ZcD ["form","words"]):Callee P w K mg base "_law_under" 1 ["form","words"] (Zbe K):=by
 refine T__law_under.ok2 sc__law_under fun f cdv A outer s H v1 v2 Q E hr h=>?_
 have nd:=sc__law_under.nd
 obtain ⟨c,ps,a,ws,r,rfl,hw,hl,hp,hz,k⟩:=h
 refine' ZaB [some v1,some (.ref a)] rfl ?hb ?hg
 case hb=>exact (Zal (Zay (ZaN Zbx (Zai (k_ix (K:=K) rfl) (pv 0) Zaa (fun _ _=>rfl)) (Zbb (k_sum (K:=K) rfl rfl) (by rfl) B.b_sum ZlK (ZcH (Zb1 (LN:=["a","w"]) (FN:=["words"]) (fr:=[1]) rfl (Zd0 (by rfl)) (ZcI (K:=K) rfl (Zai (k_ix (K:=K) rfl) (pv 0) Zaa (fun _ _=>rfl))) (fun cl C fp pins s H=>(ZbQ (K:=K) (n:=2) rfl rfl (ZaF (ZaA (i:=0) (show ((["a","w"]:List Str)++(["words"]:List Str)).Nodup by decide +kernel) rfl (Or.inl rfl)) (ZaF (ZaA (i:=1) (show ((["a","w"]:List Str)++(["words"]:List Str)).Nodup by decide +kernel) rfl (Or.inl rfl)) Zb5)))) (fun cl C fp pins s H=>ZbR) (fun cl C fp pins s H=>(ZaN Zet (pv 0) (Zai (k_ix (K:=K) rfl) (pv 2) (pv 1) (fun _ _=>rfl))))) Zad)))))
 walk_at"rdy"
 refine Zjn (n:=0) r rfl rfl ?_
 walk_at"rdy"
 refine Zfw (n:=1) r rfl rfl fun v rv=>?_
 refine ZfY rv fun b xs e hb rx=>?_
 have hlen:=rx.length
 rw[length_map] at hlen
 refine ZeI (xs:=xs) (Za2 (by lia)) (fun i ys σ H1=>Ex2 fun x1 x2=>An3 (σ=[x1,x2,some (.ref a)]) (Same H H1) (ys=((ps.take i).map fun p=>p.1 * ws.getD p.2.toNat 0).map V.int)) ⟨none,none,rfl,Same.refl _,rfl⟩ (fun i ys σ H1 _ z_=>by obtain ⟨_,_,_,s1,_⟩:=z_;exact SqT.of (s1 _ _ hb)) ?_ ?_
 ·rintro i x ys σ H1 hx hle hlt ⟨x1,x2,rfl,s1,rfl⟩
  obtain ⟨d,ed,rd⟩:=rx.get' hx
  rw[getElem?_map] at ed
  obtain ⟨p,ep,rfl⟩:=Option.map_eq_some_iff.mp ed
  obtain ⟨q,zs,rfl,hq,rz⟩:=ZaG rd
  obtain ⟨u1,r1,rfl,e1,rz⟩:=Zaj rz
  obtain ⟨u2,r2,rfl,e2,rz⟩:=Zaj rz
  obtain rfl:=ZaD rz
  obtain rfl:=ZaK e1
  obtain rfl:=ZaK e2
  obtain ⟨h0,h1,h2⟩:=hp p (mem_of_getElem? ep)
  refine Zb4 (s1 _ _ hq) rfl ?_
  walk_at"rdy"
  have hwi:ws[p.2.toNat]?=some (ws.getD p.2.toNat 0):=by
   rw[getD_eq_getElem?_getD]
   rw[getElem?_eq_getElem (by lia)]
   rfl
  refine .inl ⟨a,_,_,_,rfl,rfl,hw.mono s1,Zaw (n:=p.2.toNat) (by lia) (by rw[getElem?_map,hwi];rfl),?_⟩
  refine rd_I ⟨h2,hz _ (mem_of_getElem? hwi)⟩ ?_
  refine ⟨hlt,by simpa using hle,_,_,rfl,s1,?_⟩
  rw[take_add_one,ep]
  simp
 ·rintro ys σ H1 _ ⟨x1,x2,rfl,s1,rfl⟩ q hq
  walk_at"rdy"
  refine Zlp (SqL.of Zag) ?_
  walk_at"rdy"
  rw[<-hlen,take_length]
  exact k _ (s1.trans (Same.new hq))
inductive Pr_words50 (x:V) (H:Hp) (Q:VK):Prop
 | mk (m:Nat) (_:x=.int m) (_:m<=1000) (_:∀ q vs H',Same H H'->H q=none->H' q=some (.lst vs)->Reps H' ((Zdh m).map fmD) vs->Q (.ref q) H'):Pr_words50 x H Q
def Zfo:Sp:=sp1 (Pr_words50)
theorem sc__law_words:FnScope ["many"] ["many"] (Zan ZcC):=by walk_at"fs"
theorem Zg0 (B:Blt mg) (T__law_words:TopFn K mg "_law_words" ZcC ["many"]):Callee P w K mg base "_law_words" 1 ["many"] Zfo:=by
 refine T__law_words.ok1 sc__law_words fun f cdv A outer s H v1 Q E hr hh=>?_
 have nd:=sc__law_words.nd
 obtain ⟨m,rfl,hm,k⟩:=hh
 refine' ZaB [some (.int m)] rfl ?hb ?hg
 case hb=>exact (Zal (Zay (Zb1 (LN:=["w"]) (FN:=[]) (fr:=[]) rfl (Zd0 (by rfl)) (Zdo rfl B.b_range (Zac (pv 0) Zad)) (fun cl C fp pins s H=>(ZaA (i:=0) (show ((["w"]:List Str)++([]:List Str)).Nodup by decide +kernel) rfl (Or.inl rfl))) (fun cl C fp pins s H=>ZbR) (fun cl C fp pins s H=>(Zap (Zab Zaa (Zam (Zap (Zam (Zap (Zab Zaa (Zac (pv 0) Zad))) Zad)) Zad)))))))
 walk_at"rdy"
 refine ZgH (by lia) (by lia) ?_
 refine ZeR (n:=m) (Za2 (by lia)) (fun i zs σ Hx=>An3 (∃ x1,σ=[x1]) (Same H Hx) (Reps Hx (((List.range i).map fun (w:Nat)=>ofW (w:Int)).map fmD) zs)) ⟨⟨none,rfl⟩,Same.refl _,ZaM⟩ ?_ ?_
 ·rintro i zs σ Hx hi hle hlt' ⟨⟨x1,rfl⟩,s1,rz⟩
  refine ZaC ?_
  refine ZeY ?_
  rw[if_pos rfl]
  refine DT.go (d:=fmD (ofW (0+i))) ?_ fun v H3 s3 r3=>?_
  ·walk_at"ddy"
  refine ⟨hlt',by simpa using hle,⟨_,rfl⟩,s1.trans s3,?_⟩
  rw[range_succ,map_append,map_append]
  refine (rz.mono s3.ts).append (Zas ?_ ZaM)
  rw[Int.zero_add] at r3
  exact r3
 rintro zs σ Hx hzl ⟨⟨x1,rfl⟩,s00,rz⟩ qw hqw
 refine k qw zs _ (s00.trans (Same.new hqw)) (s00.free hqw) Zag ?_
 unfold Zdh
 rw[Int.toNat_natCast]
 exact rz.mono (Same.new hqw).ts
inductive Pr_when (x:V) (H:Hp) (Q:VK):Prop
 | mk (b l) (_:x=.ref b) (_:BagAt H b l) (_:∀ q bs H',H' q=some (.lst ((bs:List Bool).map V.bl))->bs.length<=1000->BagAt H' b l->BSame b H H'->Q (.ref q) H'):Pr_when x H Q
def ZfD:Sp:=sp1 (Pr_when)
theorem sc__law_when:FnScope ["bag","way"] ["bag"] (Zan Zc1):=by walk_at"fs"
theorem ZhO (B:Blt mg) (T__law_when:TopFn K mg "_law_when" Zc1 ["bag"]) (ZaP:Callee P w K mg base "_law_draw" 1 ["bag","many"] Zby):Callee P w K mg base "_law_when" 2 ["bag"] ZfD:=by
 refine T__law_when.ok1 sc__law_when fun f cdv A outer s H v1 Q E hr hh=>?_
 have nd:=sc__law_when.nd
 obtain ⟨b,l,rfl,B1,k⟩:=hh
 refine' ZaB [some (.ref b),none] rfl ?hb ?hg
 case hb=>exact (Zaf (Zbl (i:=1) nd rfl (Or.inr rfl) (ZaS ZaP hr.m (by rfl) (Zac (pv 0) (Zab Zaa Zad)))) (Zaf (ZaZ (Zar ZaX (pv 1) Zaa (Zau _)) (Zal (Zay (ZaN Zh7 (ZaH (Zab ZiB (Zab ZiB (Zab ZiB Zad)))) Zaa))) ZaE) (Zal (Zay (Zb1 (LN:=["k"]) (FN:=["bag","way"]) (fr:=[0,1]) rfl (Zd0 (by rfl)) (Zdo rfl B.b_range (Zc9 (ZaN Zbx Zaa (ZaS ZaP hr.m (by rfl) (Zac (pv 0) (Zab Zaa Zad)))) Zad)) (fun cl C fp pins s H=>(ZaA (i:=0) (show ((["k"]:List Str)++(["bag","way"]:List Str)).Nodup by decide +kernel) rfl (Or.inl rfl))) (fun cl C fp pins s H=>ZbR) (fun cl C fp pins s H=>(ZcN ZaX (ZaS ZaP hr.m (by rfl) (Zac (pv 1) (Zac (pv 2) Zad))) Zaa (Zau _))))))))
 walk_at"rdy"
 refine use2 ⟨b,l,4,rfl,rfl,⟨by decide,by decide⟩,B1,fun way H2 w0 w1 B2 s2=>?_⟩
 walk_at"rdy"
 refine Zbr (fun hz=>?_) (fun hz=>?_)
 ·walk_at"rdy"
  refine mk_L (Zcc rfl) fun q3 H3 s3 _ h3=>?_
  walk_at"rdy"
  refine ⟨q3,100,_,rfl,rfl,h3,by decide,by decide,Za2 (by show 3 * (100:Int).toNat<=_;decide),fun q4 hq4=>?_⟩
  refine k q4 (List.replicate 100 [true,false,false]).flatten _ ?_ (by decide +kernel) ((B2.mono s3).mono (Same.new hq4)) (s2.trans (BSame.of (s3.trans (Same.new hq4))))
  rw[Zag,map_flatten,map_replicate]
  rfl
 ·walk_at"rdy"
  refine use2 ⟨b,l,300,rfl,rfl,⟨by decide,by decide⟩,B2,fun m H3 m0 m1 B3 s3=>?_⟩
  walk_at"rdy"
  refine ZgH (by lia) (by lia) ?_
  refine ZeR (n:=(20+m).toNat) (Za2 (by lia)) (fun i zs σ Hx=>An4 (∃ x1,σ=[x1,some (.ref b),some (.int way)]) (BagAt Hx b l) (BSame b H Hx) (∃ bs:List Bool,bs.length=i/\zs=bs.map V.bl)) ⟨⟨none,rfl⟩,B3,s2.trans s3,[],rfl,rfl⟩ ?_ ?_
  ·rintro i zs σ Hx hi hle hlt' ⟨⟨x1,rfl⟩,Bx,sx,bs,hbl,rfl⟩
   walk_at"rdy"
   refine use2 ⟨b,l,way,rfl,rfl,⟨by lia,by lia⟩,Bx,fun y H4 y0 y1 B4 s4=>?_⟩
   walk_at"rdy"
   refine ⟨hlt',by simpa using hle,⟨_,rfl⟩,B4,sx.trans s4,bs++[decide (y=0)],by simp[hbl],by simp⟩
  rintro zs σ Hx hzl ⟨⟨x1,rfl⟩,Bx,sx,bs,hbl,rfl⟩ qw hqw
  exact k qw bs _ Zag (by lia) (Bx.mono (Same.new hqw)) (sx.trans (BSame.of (Same.new hqw)))
end
end My
end
section
namespace My
open PySem L2
section
variable {P:Program} {w:World} {K:W.Frag} {mg:Str->Option Value} {base:Heap}
variable {C CC:Addr}
inductive RFrom (P:List Df) (sts:List Std) (most:Int) (bs:List Bool):HS->List LogE->Nat->HS->List LogE->Nat->Prop
 | refl {h l n}:RFrom P sts most bs h l n h l n
 | plain {h l n fs fr h2 l2 n2} (f:h.fin=none) (g:h.gone < most) (e:h.frames=fs++[fr]) (d:dAt P sts (fr.1,fr.2.1)=none\/¬ h.frames.length<=17) (r:RFrom P sts most bs (h.go P) l n h2 l2 n2):RFrom P sts most bs h l n h2 l2 n2
 | no {h l n fs fr k h2 l2 n2} (f:h.fin=none) (g:h.gone < most) (e:h.frames=fs++[fr]) (d:dAt P sts (fr.1,fr.2.1)=some k) (room:h.frames.length<=17) (b:bs.getD n false=false) (r:RFrom P sts most bs (h.go P) l (n+1) h2 l2 n2):RFrom P sts most bs h l n h2 l2 n2
 | over {h l n fs fr k h' why k' n' h2 l2 n2} (f:h.fin=none) (g:h.gone < most) (e:h.frames=fs++[fr]) (d:dAt P sts (fr.1,fr.2.1)=some k) (room:h.frames.length<=17) (b:bs.getD n false=true) (lr:LRun P sts most bs h k fr.2.2 (n+1) h' why k' n') (r:RFrom P sts most bs h' (l++[((Str.ofString "over",k,h.gone):LogE),(why,k',h'.gone)]) n' h2 l2 n2):RFrom P sts most bs h l n h2 l2 n2
section
variable {P:List Df} {sts:List Std} {most:Int} {bs:List Bool} {ns:List Int}
theorem RFrom.trans {h1 h2 h3:HS} {l1 l2 l3:List LogE} {n1 n2 n3:Nat} (a:RFrom P sts most bs h1 l1 n1 h2 l2 n2) (b:RFrom P sts most bs h2 l2 n2 h3 l3 n3):RFrom P sts most bs h1 l1 n1 h3 l3 n3:=by
 induction a with
 | refl=>exact b
 | plain f g e d _ ih=>exact .plain f g e d (ih b)
 | no f g e d room bb _ ih=>exact .no f g e d room bb (ih b)
 | over f g e d room bb lr _ ih=>exact .over f g e d room bb lr (ih b)
theorem RTo.from {h:HS} {l:List LogE} {n:Nat} (r:RTo P sts most bs ns h l n):RFrom P sts most bs (hit P ns 0) [] 0 h l n:=by
 induction r with
 | init=>exact .refl
 | plain _ f g e d ih=>exact ih.trans (.plain f g e d .refl)
 | no _ f g e d room b ih=>exact ih.trans (.no f g e d room b .refl)
 | over _ f g e d room b lr ih=>exact ih.trans (.over f g e d room b lr .refl)
theorem RFrom.det {h h1 h2:HS} {l l1 l2:List LogE} {n n1 n2:Nat} (a:RFrom P sts most bs h l n h1 l1 n1) (b:RFrom P sts most bs h l n h2 l2 n2) (s1:¬ (h1.fin=none/\h1.gone < most)) (s2:¬ (h2.fin=none/\h2.gone < most)):h1=h2/\l1=l2/\n1=n2:=by
 induction a with
 | refl =>
  cases b with
  | refl=>exact ⟨rfl,rfl,rfl⟩
  | plain f g=>exact absurd ⟨f,g⟩ s1
  | no f g=>exact absurd ⟨f,g⟩ s1
  | over f g=>exact absurd ⟨f,g⟩ s1
 | plain f g e d _ ih =>
  cases b with
  | refl=>exact absurd ⟨f,g⟩ s2
  | plain _ _ _ _ r=>exact ih r s1
  | no _ _ e' d' room' _ r =>
   rw[e] at e'
   obtain ⟨rfl,e2⟩:=append_inj' e' rfl
   cases e2
   rcases d with d|d
   ·rw[d] at d';cases d'
   ·exact absurd room' d
  | over _ _ e' d' room' _ _ r =>
   rw[e] at e'
   obtain ⟨rfl,e2⟩:=append_inj' e' rfl
   cases e2
   rcases d with d|d
   ·rw[d] at d';cases d'
   ·exact absurd room' d
 | no f g e d room b0 _ ih =>
  cases b with
  | refl=>exact absurd ⟨f,g⟩ s2
  | plain _ _ e' d' r =>
   rw[e] at e'
   obtain ⟨rfl,e2⟩:=append_inj' e' rfl
   cases e2
   rcases d' with d'|d'
   ·rw[d] at d';cases d'
   ·exact absurd room d'
  | no _ _ _ _ _ _ r=>exact ih r s1
  | over _ _ _ _ _ b1 _ r=>rw[b0] at b1;cases b1
 | over f g e d room b0 lr _ ih =>
  cases b with
  | refl=>exact absurd ⟨f,g⟩ s2
  | plain _ _ e' d' r =>
   rw[e] at e'
   obtain ⟨rfl,e2⟩:=append_inj' e' rfl
   cases e2
   rcases d' with d'|d'
   ·rw[d] at d';cases d'
   ·exact absurd room d'
  | no _ _ _ _ _ b1 r=>rw[b0] at b1;cases b1
  | over _ _ e' d' _ _ lr' r =>
   rw[e] at e'
   obtain ⟨rfl,e2⟩:=append_inj' e' rfl
   cases e2
   rw[d] at d'
   cases d'
   obtain ⟨rfl,rfl,rfl,rfl⟩:=LRun.det lr lr'
   exact ih r s1
theorem RTo.det {h1 h2:HS} {l1 l2:List LogE} {n1 n2:Nat} (a:RTo P sts most bs ns h1 l1 n1) (b:RTo P sts most bs ns h2 l2 n2) (s1:¬ (h1.fin=none/\h1.gone < most)) (s2:¬ (h2.fin=none/\h2.gone < most)):h1=h2/\l1=l2/\n1=n2:=a.from.det b.from s1 s2
end
end
end My
end
section
namespace My
open PySem L2
section
variable {P:Program} {w:World} {K:W.Frag} {mg:Str->Option Value} {base:Heap}
variable {C CC:Addr}
inductive Pr_ldoors (x:V) (H:Hp) (Q:VK):Prop
 | mk (P q ys sts) (_:x=.ref q) (_:LaneAt H sts q ys) (_:sts.length<=1000) (_:∀ st∈sts,DOk P st/\∀ s,st.paper=[s]->st.many=ZbT P s.1) (_:∀ d H',DrAt H' P sts d->H d=none->Same H H'->Q (.ref d) H'):Pr_ldoors x H Q
def Zgk:Sp:=sp1 (Pr_ldoors)
theorem sc__law_doors:FnScope ["lane","doors","k","many","paper","deed"] ["lane"] (Zan ZcE):=by walk_at"fs"
theorem Zg2 (B:Blt mg) (T__law_doors:TopFn K mg "_law_doors" ZcE ["lane"]) (Zd3:Callee P w K mg base "_law_words" 1 ["many"] Zfo):Callee P w K mg base "_law_doors" 2 ["lane"] Zgk:=by
 refine T__law_doors.ok1 sc__law_doors fun f cdv A outer s H v1 Q E hr hh=>?_
 have nd:=sc__law_doors.nd
 have hu:=hr.units
 have hu1:=ZkS hr
 obtain ⟨Pg,q,ys,sts,rfl,la,hsl,hok,k⟩:=hh
 refine' ZaB [some (.ref q),none,none,none,none,none] rfl ?hb ?hg
 case hb=>exact (Zaf (ZcS (i:=1) nd rfl (Or.inl rfl) Zh6) (Zaf (Zh4 PassesOwn.never rfl (Zdo rfl B.b_range (Za4 (Zbb (ZdU (K:=K) rfl) (by rfl) B.b_len Zcu (Zac (pv 0) Zad)) Zad)) (ZaA (i:=2) nd rfl (Or.inl rfl)) (Zaf (Za3 (Zai (k_ix (K:=K) rfl) (pv 0) (pv 2) (fun _ _=>rfl)) (ZbQ (K:=K) (n:=3) rfl rfl (ZaF (ZaA (i:=3) nd rfl (Or.inl rfl)) (ZaF (ZaA (i:=4) nd rfl (Or.inl rfl)) (ZaF (ZaA (i:=5) nd rfl (Or.inl rfl)) Zb5))))) (Zal (ZaZ (PW.pt (Zbk (Zar ZaX (Zbb (ZdU (K:=K) rfl) (by rfl) B.b_len Zcu (Zac (pv 4) Zad)) Zaa (Zau _)) (Zbk (Zar (Zmu (K:=K) rfl hu) (Zbf (ZdT (K:=K) rfl) (by rfl) B.b_list ZdZ (Zav (Zai (k_ix (K:=K) rfl) (Zai (k_ix (K:=K) rfl) (pv 4) Zaa (fun _ _=>rfl)) Zaa (fun _ _=>rfl)) Zad)) (ZaS Zd3 hr.m (by rfl) (Zac (pv 3) Zad)) (Zau _)) (Zba (Zlt (Zjz hu1 (ZcG (ZjJ (K:=K) rfl) (Zai (k_ix (K:=K) rfl) (pv 4) Zaa (fun _ _=>rfl)) Zdn (Zdm Zaa)) (pv 1))))))) (Zal (Zl7 hu1 (pv 1) (ZcG (ZjJ (K:=K) rfl) (Zai (k_ix (K:=K) rfl) (pv 4) Zaa (fun _ _=>rfl)) Zdn (Zdm Zaa)) (pv 2) rfl)) ZaE)))) (Zal (Zay (pv 1)))))
 walk_at"rdx"
 intro pd hpd
 have s0:=Same.new (o:=.dT []) hpd
 have e0:upd H pd (.dT []) pd=some (.dT []):=Zag
 generalize upd H pd (.dT [])=H0 at s0 e0
 have hyl:=la.len
 walk_at"rdx"
 refine ZbD (SqL.of (s0 _ _ la.lst)) ?_
 walk_at"rdx"
 refine ZgH (by lia) (by lia) ?_
 refine ZjV (n:=ys.length) (fun i σ Hx=>An3 (∃ c2 c3 c4 c5,σ=[some (.ref q),some (.ref pd),c2,c3,c4,c5]) (Same H Hx) (DrAt Hx Pg (sts.take i) pd)) ⟨⟨none,none,none,none,rfl⟩,s0,[],e0,Nat.zero_le _,fun pl=>rfl⟩ ?_ ?_
 ·rintro i σ Hx hi ⟨⟨c2,c3,c4,c5,rfl⟩,s1,kvs,hkv,hkl,hval⟩
  have hi:i < sts.length:=by rw[hyl];lia
  have est:=getElem?_eq_getElem hi
  generalize sts[i]=st at est
  obtain ⟨x,hx,sv0⟩:=la.get est
  have sv:=sv0.mono s1
  have hti:(sts.take i).length=i:=by rw[length_take];lia
  have etk:sts.take (i+1)=sts.take i++[st]:=by rw[take_add_one,est];rfl
  rw[hti] at hkl
  have hlt:kvs.length<=(sts.take (i+1)).length:=by rw[length_take];lia
  have stay:ZbE Pg st=false\/(∃ v,valV kvs (key2 (plc st))=some v)->∀ pl,valV kvs (key2 pl)=(dAt Pg (sts.take (i+1)) pl).map fun (k:Nat)=>V.int (k:Int):=fun hh pl=>by
   rw[etk,ZeQ,hval pl]
   cases hd:dAt Pg (sts.take i) pl with
   | some k=>rfl
   | none =>
    cases hb:ZbE Pg st && decide (plc st=pl) with
    | false=>rfl
    | true =>
     simp only[Bool.and_eq_true,decide_eq_true_eq] at hb
     rcases hh with h|⟨v,hv⟩
     ·rw[hb.1] at h;cases h
     ·rw[hb.2,hval pl,hd] at hv;cases hv
  obtain ⟨ok,hbx⟩:=hok st (mem_of_getElem? est)
  obtain ⟨t,l,td,ysP,xsD,rfl,ht,hl,hd,rp,rx⟩:=Zdi sv
  have hpl:=rp.length
  rw[length_map] at hpl
  have hfew:=ok.few
  walk_at"rdx"
  refine Zak (v:=.ref t) (s1 _ _ la.lst) (Zaw (n:=i) (by lia) hx) ?_
  refine Zb4 ht rfl ?_
  walk_at"rdx"
  refine ZbD (SqL.of hl) ?_
  walk_at"rdx"
  refine Zbr (fun h1=>?_) (fun h1=>?_)
  case refine_2 =>
   refine iteF ?_
   refine Za5 ?_
   refine ⟨⟨_,_,_,_,rfl⟩,s1,kvs,hkv,hlt,stay (.inl ?_)⟩
   unfold ZbE
   split
   ·next s e=>exact absurd (by rw[<-hpl,e];rfl) h1
   ·rfl
  have hp1:st.paper.length=1:=by lia
  obtain ⟨sf,esf⟩:∃ sf,st.paper=[sf]:=by
   match hh:st.paper,hp1 with
   | [sf],_=>exact ⟨sf,rfl⟩
  rw[esf] at rp hpl
  obtain ⟨y,yr,rfl,ry,rz⟩:=Zaj rp
  obtain rfl:=ZaD rz
  obtain ⟨sf',tf,fa,fx,es,rfl,htf,hfa,rfx⟩:=Zgu (sp:=[sf]) (i:=0) rp rfl
  cases es
  have hplc:plc st=(sf.1,sf.2.1):=by unfold plc;rw[esf]
  have hdr:ZbE Pg st=decide (sf.2.2=Zdh st.many):=by
   unfold ZbE
   rw[esf]
   simp only
   rw[<-hbx sf esf]
   simp
  obtain ⟨m0,m1⟩:=ok.m
  walk_at"rdx"
  refine Zak hl (Zaw (n:=0) rfl rfl) ?_
  walk_at"rdx"
  refine Zaq (v:=.ref fa) htf rfl ?_
  walk_at"rdx"
  refine Zc7 (.inr (SqT.of hfa)) fun pc hpc=>?_
  have s2:=Same.new (o:=.lst fx) hpc
  have hc:upd Hx pc (.lst fx) pc=some (.lst fx):=Zag
  generalize upd Hx pc (.lst fx)=H2 at s2 hc
  walk_at"rdx"
  refine use1 ⟨st.many.toNat,by rw[Int.toNat_of_nonneg m0],by lia,fun qw vs H3 s3 _ hqw rw3=>?_⟩
  obtain ⟨pl1,dp1⟩:=Zh5 sf.2.2
  obtain ⟨pl2,_⟩:=Zh5 (Zdh st.many)
  rw[Int.toNat_of_nonneg m0] at rw3
  have s23:=s2.trans s3
  refine ⟨pc,qw,fx,vs,sf.2.2.map fmD,(Zdh st.many).map fmD,rfl,rfl,SqL.of (s3 _ _ hc),SqL.of hqw,rfx.mono s23.ts,rw3,pl1,pl2,by lia,?_⟩
  rw[ZlE]
  have s13:=s1.trans s23
  refine ⟨_,rfl,?_⟩
  refine Zbr (fun h2=>?_) (fun h2=>?_)
  case refine_2 =>
   refine iteF ?_
   refine Za5 ?_
   exact ⟨⟨_,_,_,_,rfl⟩,s13,kvs,s23 _ _ hkv,hlt,stay (.inl (by rw[hdr];exact decide_eq_false h2))⟩
  walk_at"rdx"
  unfold Zi4
  walk_at"rdx"
  refine Zak (s23 _ _ hl) (Zaw (n:=0) rfl rfl) ?_
  walk_at"rdx"
  refine Zgw (s23 _ _ htf) fun p2 H4 e4 s4=>?_
  have e4:H4 p2=some (.tup ((key2 (plc st)).map kV)):=by
   rw[e4,hplc]
   rfl
  have s14:=s13.trans s4
  have hkv4:=s4 _ _ (s23 _ _ hkv)
  walk_at"rdx"
  refine ⟨pd,_,rfl,DGet.t hkv4 e4,?_⟩
  refine ⟨_,rfl,?_⟩
  cases hvk:valV kvs (key2 (plc st)) with
  | some v =>
   refine Ze8 rfl ?_
   refine Za5 ?_
   exact ⟨⟨_,_,_,_,rfl⟩,s14,kvs,hkv4,hlt,stay (.inr ⟨v,hvk⟩)⟩
  | none =>
   refine Zew rfl ?_
   refine ZfQ ?_
   walk_at"rdx"
   refine Zak (s4 _ _ (s23 _ _ hl)) (Zaw (n:=0) rfl rfl) ?_
   walk_at"rdx"
   refine Zgw (s4 _ _ (s23 _ _ htf)) fun p3 H5 e5 s5=>?_
   have e5:H5 p3=some (.tup ((key2 (plc st)).map kV)):=by
    rw[e5,hplc]
    rfl
   refine ⟨pd,_,rfl,DPut.t (s5 _ _ hkv4) e5 (Nat.lt_of_le_of_lt (show kvs.length<=1000 by lia) (by rw[sizeLine_eq];decide)),?_⟩
   refine ⟨⟨_,_,_,_,rfl⟩,fun b o eb=>?_,putK kvs (key2 (plc st)) (V.int (0+i)),Zag,?_,fun pl=>?_⟩
   ·rw[Zax (fun z:b=pd=>by rw[z,hpd] at eb;cases eb)]
    exact (s14.trans s5) _ _ eb
   ·have:=Zcs kvs (key2 (plc st)) (V.int (0+i))
    rw[length_take]
    lia
   ·rw[ZhV,etk,ZeQ,hti,hdr,decide_eq_true h2]
    have hn':=hvk
    rw[hval] at hn'
    by_cases hpl:plc st=pl
    ·subst hpl
     rw[if_pos rfl]
     cases hd2:dAt Pg (sts.take i) (plc st) with
     | some k=>rw[hd2] at hn';cases hn'
     | none=>simp
    ·rw[if_neg (fun z=>hpl (Zig z).symm),hval pl]
     simp[hpl]
 ·rintro σ Hx ⟨⟨c2,c3,c4,c5,rfl⟩,s1,dr⟩
  rw[<-hyl,take_length] at dr
  walk_at"rdx"
  exact k pd _ dr hpd s1
end
end My
end
section
namespace My
open PySem L2
section
variable {P:Program} {w:World} {K:W.Frag} {mg:Str->Option Value} {base:Heap}
variable {C CC:Addr}
def NoGT (d:Dd):Prop:=(∃ y n,d=.test y n)\/(∃ e,d=.tell e)\/(∃ w n e,d=.hold w n e)\/d=.leave
inductive Pr_done (x y z u v t:V) (H:Hp) (Q:VK):Prop
 | mk (P:List Df) (pp q:Addr) (ys:List V) (sts:List Std) (ps sf sn sl:Addr) (gz:List FZ) (h:HS) (ve:V) (most:Int) (qw:Addr) (ws:List Int) (k:Nat) (st:Std) (H0:Hp) (e1:x=.ref pp) (pg:PgAt (ownA ps sf sn sl gz) H P pp) (e2:y=.ref q) (la:LaneAt H0 sts q ys) (s0:Same H0 H) (n0:∀ x∈ownA ps sf sn sl gz,H0 x=none)
   (e3:z=.ref ps) (sa:SA ps sf sn sl gz H h ve) (e4:u=.int most) (e5:v=.ref qw) (hqw:H qw=some (.lst (ws.map V.int))) (nqw:qw∉ownA ps sf sn sl gz) (e6:t=.int k) (est:sts[k]?=some st) (ok:SOk P st ws) (ng:NoGT st.deed) (few:h.news.length<=200000)
   (eo:∀ e,Za1 P st ws=some e->whyA most h st ws (some e)=none->EOk e ws.length)
   (k1:∀ why T H',whyA most h st ws (Za1 P st ws)=some why->Same H H'->H' T=some (.tup [.str why,.int k,.ref qw])->Q (.ref T) H')
   (k2:∀ e T q' H',Za1 P st ws=some e->whyA most h st ws (some e)=none->H' T=some (.tup [.non,.int e.k,.ref q'])->H' q'=some (.lst ((e.moves.map (wF ws)).map V.int))->q'∉ownA ps sf sn sl gz->H q'=none->SA ps sf sn sl gz H' (hA P h st ws e) ve->OSame (ownA ps sf sn sl gz) H H'->Q (.ref T) H'):Pr_done x y z u v t H Q
def Zi8:Sp:=sp6 Pr_done
theorem sc__law_done:FnScope ["program","lane","state","most","words","k","many","paper","deed","f","at","forms","row","edge","number","over","gone"] ["program","lane","state","most","words","k"] (Zan Zc6):=by walk_at"fs"
theorem ZhT (B:Blt mg) (T__law_done:TopFn K mg "_law_done" Zc6 ["program","lane","state","most","words","k"]) (ZbU:Callee P w K mg base "_law_under" 1 ["form","words"] (Zbe K)):Callee P w K mg base "_law_done" 2 ["program","lane","state","most","words","k"] Zi8:=by
 refine T__law_done.ok6 sc__law_done fun f cdv A outer s H v1 v2 v3 v4 v5 v6 Q E hr hh=>?_
 have nd:=sc__law_done.nd
 have hu:=hr.units
 obtain ⟨Pg,pp,q,ys,sts,ps,sf,sn,sl,gz,h,ve,most,qw,ws,k,st,H0,rfl,pg,rfl,la,s0,n0,rfl,sa,rfl,rfl,hqw,nqw,rfl,est,ok,ng,few,eo,k1,k2⟩:=hh
 refine' ZaB [some (.ref pp),some (.ref q),some (.ref ps),some (.int most),some (.ref qw),some (.int k),none,none,none,none,none,none,none,none,none,none,none] rfl ?hb ?hg
 case hb=>exact (Zaf (Za3 (Zai (k_ix (K:=K) rfl) (pv 1) (pv 5) (fun _ _=>rfl)) (ZbQ (K:=K) (n:=3) rfl rfl (ZaF (ZaA (i:=6) nd rfl (Or.inl rfl)) (ZaF (ZaA (i:=7) nd rfl (Or.inl rfl)) (ZaF (ZaA (i:=8) nd rfl (Or.inl rfl)) Zb5))))) (Zaf (ZaZ (PW.pt (Ziz (Zar ZaX (Zai (k_ix (K:=K) rfl) (pv 8) Zaa (fun _ _=>rfl)) Zat (Zau _)) (Zgz (PW.pt (Zbk (Zar ZaX (Zai (k_ix (K:=K) rfl) (pv 8) Zaa (fun _ _=>rfl)) Zat (Zau _)) (Zba (Zar ZkK (Zai (k_ix (K:=K) rfl) (pv 4) (Zai (k_ix (K:=K) rfl) (pv 8) Zaa (fun _ _=>rfl)) (fun _ _=>rfl)) (Zai (k_ix (K:=K) rfl) (pv 8) Zaa (fun _ _=>rfl)) (Zau _)))))))) (Zal (Zay (Zap (ZkI (ZdD (Zar ZaX (Zai (k_ix (K:=K) rfl) (pv 8) Zaa (fun _ _=>rfl)) Zat (Zau _)) Zat Zat) (Zac (pv 5) (Zac (pv 4) Zad)))))) ZaE) (Zaf (Za3 (Zai (k_ix (K:=K) rfl) (pv 7) (Zcp ZbB Zaa) (fun _ _=>rfl)) (ZbQ (K:=K) (n:=3) rfl rfl (ZaF (ZaA (i:=9) nd rfl (Or.inl rfl)) (ZaF (ZaA (i:=10) nd rfl (Or.inl rfl)) (ZaF (ZaA (i:=11) nd rfl (Or.inl rfl)) Zb5))))) (Zaf (Zbd (i:=12) nd rfl (Or.inl rfl) (Zai (k_ix (K:=K) rfl) (Zai (k_ix (K:=K) rfl) (Zai (k_ix (K:=K) rfl) (pv 0) (pv 9) (fun _ _=>rfl)) Zaa (fun _ _=>rfl)) (pv 10) (fun _ _=>rfl))) (Zaf (Zbd (i:=13) nd rfl (Or.inl rfl) (Zai (k_ix (K:=K) rfl) (pv 8) (Zcp ZbB Zaa) (fun _ _=>rfl))) (Zaf (ZcS (i:=14) nd rfl (Or.inl rfl) (ZdD (Zar (k_in (K:=K) rfl) (Zai (k_ix (K:=K) rfl) (pv 8) Zaa (fun _ _=>rfl)) (ZaH (Zab Zat (Zab Zat Zad))) (by with_unfolding_all rfl)) (ZaS ZbU hr.m (by rfl) (Zav (Zai (k_ix (K:=K) rfl) (pv 11) (Zai (k_ix (K:=K) rfl) (pv 12) Zaa (fun _ _=>rfl)) (fun _ _=>rfl)) (Zac (pv 4) Zad))) Zaa)) (Zaf (ZcS (i:=15) nd rfl (Or.inl rfl) (ZdD (Zar ZaX (Zai (k_ix (K:=K) rfl) (pv 12) Zaa (fun _ _=>rfl)) Zat (Zau _)) (ZcN ZaX (pv 14) Zaa (Zau _)) (ZcN ZhA (pv 14) Zaa (Zau _)))) (Zaf (ZaZ (PW.pt (Zbk (Zar ZaX (Zai (k_ix (K:=K) rfl) (pv 8) Zaa (fun _ _=>rfl)) Zat (Zau _)) (Zba (ZdK (pv 15))))) (Zal (Zbd (i:=13) nd rfl (Or.inl rfl) (Zai (k_ix (K:=K) rfl) (pv 8) Zaa (fun _ _=>rfl)))) ZaE) (Zaf (ZdQ (i:=16) nd rfl (Or.inl rfl) (ZaN Zbx (Zai (k_ix (K:=K) rfl) (pv 13) Zaa (fun _ _=>rfl)) (Zbf Zj8 (by rfl) B.b_int bt_int (ZkH (ZcN (k_in (K:=K) rfl) (Zai (k_ix (K:=K) rfl) (pv 8) Zaa (fun _ _=>rfl)) (ZaH (Zab Zat (Zab Zat (Zab Zat Zad)))) (by with_unfolding_all rfl)) Zad)))) (Zaf (ZaZ (PW.pt (Ziz (Zar Zmm (ZaN Zbx (Zai (k_ix (K:=K) rfl) (pv 2) Zaa (fun _ _=>rfl)) (pv 16)) (pv 3) (Zau _)) (Zgz (PW.pt (Zbk (Zar ZaX (Zai (k_ix (K:=K) rfl) (pv 8) Zaa (fun _ _=>rfl)) Zat (Zau _)) (Zba (Zar (Zmu (K:=K) rfl hu) (Zai (k_ix (K:=K) rfl) (pv 2) Zaa (fun _ _=>rfl)) (ZaH Zad) (Zau _)))))))) (Zal (Zay (Zap (Zab Zat (Zac (pv 5) (Zac (pv 4) Zad)))))) ZaE) (Zaf (ZaZ (Zar ZaX (Zai (k_ix (K:=K) rfl) (pv 8) Zaa (fun _ _=>rfl)) Zat (Zau _)) (Zal (Zbm (k_bm (K:=K) rfl PySem.F.plainAttrs_list PySem.F.slot_list_append PySem.F.type_list_append ZbN (Zai (k_ix (K:=K) rfl) (pv 2) Zaa (fun _ _=>rfl)) (Zac (pv 14) Zad)))) ZaE) (Zaf (ZaZ (Zar ZaX (Zai (k_ix (K:=K) rfl) (pv 8) Zaa (fun _ _=>rfl)) Zat (Zau _)) (Zal (ZdQ (i:=4) nd rfl (Or.inr rfl) (ZaN Zek (pv 4) (ZaH (Za4 (k_bm (K:=K) rfl PySem.F.plainAttrs_list PySem.F.slot_list_pop PySem.F.type_list_pop ZdF (Zai (k_ix (K:=K) rfl) (pv 2) Zaa (fun _ _=>rfl)) (Zab Zaa Zad)) Zad))))) ZaE) (Zaf (Za3 (ZaN Zbx (Zai (k_ix (K:=K) rfl) (pv 2) Zaa (fun _ _=>rfl)) (pv 16)) (Zbq (pv 2) Zaa ZaO)) (Zal (Zay (Zap (Zab Zcr (Zav (Zai (k_ix (K:=K) rfl) (pv 13) Zaa (fun _ _=>rfl)) (ZcH (Zb1 (LN:=["form"]) (FN:=["words"]) (fr:=[4]) rfl (Zd0 (by rfl)) (ZcI (K:=K) rfl (Zai (k_ix (K:=K) rfl) (pv 13) Zaa (fun _ _=>rfl))) (fun cl C fp pins s H=>(ZaA (i:=0) (show ((["form"]:List Str)++(["words"]:List Str)).Nodup by decide +kernel) rfl (Or.inl rfl))) (fun cl C fp pins s H=>ZbR) (fun cl C fp pins s H=>(ZaS ZbU hr.m (by rfl) (Zac (pv 0) (Zac (pv 1) Zad))))) Zad)))))))))))))))))))
 obtain ⟨x,hx,sv0⟩:=la.get est
 have sv:=sv0.mono s0
 obtain ⟨t,l,tf,fa,vd,ysP,xsF,sfr,dd,rr,rfl,ht,hl,hyl,hfr,hfa,rxf,f0,ed,a0,er,fit,ask,lr,bn,fo,rp,rdd⟩:=ZeO sv ok
 obtain ⟨td,xsD,rfl,hd,rx⟩:=Zf2 rdd
 have hwd:(st.deed.word=Str.ofString "test"/\st.deed.own=true)\/(st.deed.word=Str.ofString "tell"/\st.deed.own=true)\/(st.deed.word=Str.ofString "hold"/\st.deed.own=false)\/(st.deed.word=Str.ofString "leave"/\st.deed.own=false):=by
  rcases ng with ⟨y,n,hdd⟩|⟨e',hdd⟩|⟨a,b,c,hdd⟩|hdd <;> rw[hdd]
  ·exact .inl ⟨rfl,rfl⟩
  ·exact .inr (.inl ⟨rfl,rfl⟩)
  ·exact .inr (.inr (.inl ⟨rfl,rfl⟩))
  ·exact .inr (.inr (.inr ⟨rfl,rfl⟩))
 have wsE:wsA h st ws=ws:=by
  unfold wsA
  rcases ng with ⟨y,n,hdd⟩|⟨e',hdd⟩|⟨a,b,c,hdd⟩|hdd <;> rw[hdd]
 have tail:∀ (e:Edg) (v13:V) (num:Int) (c6 c9 c10 c11 c12 c15:Option V) (H1:Hp),Same H H1->Rep H1 e.d v13->Za1 Pg st ws=some e->(∀ e',st.deed=.tell e'->num=boxN Pg st ws)->whyA most h st ws (some e)=(if most < h.gone+ZbK st.deed e then some (Str.ofString "short") else none)->(tSeq (tAsg (tOp (rI0 fun i j=>.int (i+j)) (tOp (rIxA K) (tVar 13) (tC (.int 0))) (tCB rInt (Zae (tOp (rIn K false) (tOp (rIxA K) (tVar 8) (tC (.int 0))) (tLst (Zae (tC (.str "test")) (Zae (tC (.str "tell")) (Zae (tC (.str "take")) tNil))))) tNil))) (ZaI 16)) (tSeq (tIfS (tOr (ZaW (tOp (rI0 fun i j=>.bl (decide (j < i))) (tOp (rI0 fun i j=>.int (i+j)) (tOp (rIxA K) (tVar 2) (tC (.int 3))) (tVar 16)) (tVar 3))) (tAnd (ZaW (tOp rEq (tOp (rIxA K) (tVar 8) (tC (.int 0))) (tC (.str "take")))) (ZaW (tOp (rEqL K) (tOp (rIxA K) (tVar 2) (tC (.int 1))) (tLst tNil))))) (tRet (tTup (Zae (tC (.str "short")) (Zae (tVar 5) (Zae (tVar 4) tNil))))) ZbH) (tSeq (tIfS (ZaW (tOp rEq (tOp (rIxA K) (tVar 8) (tC (.int 0))) (tC (.str "tell")))) (ZdI (tBM K "list" ZcK (tOp (rIxA K) (tVar 2) (tC (.int 2))) (Zae (tVar 14) tNil))) ZbH) (tSeq (tIfS (ZaW (tOp rEq (tOp (rIxA K) (tVar 8) (tC (.int 0))) (tC (.str "take")))) (tAsg (tOp rCat (tVar 4) (tLst (Zae (tBM K "list" Ze0 (tOp (rIxA K) (tVar 2) (tC (.int 1))) (Zae (tC (.int 0)) tNil)) tNil))) (ZaI 4)) ZbH) (tSeq (tAsg (tOp (rI0 fun i j=>.int (i+j)) (tOp (rIxA K) (tVar 2) (tC (.int 3))) (tVar 16)) (gSub (tVar 2) (tC (.int 3)) Zco)) (tRet (tTup (Zae (tC .non) (Zae (tOp (rIxA K) (tVar 13) (tC (.int 2))) (Zae (ZeS ["form"] [4] (iTup K (tOp (rIxA K) (tVar 13) (tC (.int 1)))) (ZaI 0) Zfh (ZaQ (Zbe K) [] E0 (Zae (tVar 0) (Zae (tVar 1) tNil)))) tNil)))))))))) { nx:=fun _ H'=>Q .non H',rt:=Q } [some (.ref pp),some (.ref q),some (.ref ps),some (.int most),some (.ref qw),some (.int k),c6,some (.ref l),some (.ref td),c9,c10,c11,c12,some v13,some (.int num),c15,none] H1:=by
  intro e v13 num c6 c9 c10 c11 c12 c15 H1 s1 re he hnum hy
  obtain ⟨te,qm,ms,rfl,hte,hqm,rm⟩:=Zf1 re
  walk_at"rdx"
  refine Zaq (v:=.int e.rows) hte rfl ?_
  walk_at"rdx"
  refine Zaq (v:=.str st.deed.word) (s1 _ _ hd) (Zaw (n:=0) rfl rfl) ?_
  walk_at"rdx"
  walk_at"mk";intro p2 hp2
  have s2:=Same.new (o:=.lst [V.str (Str.ofString "test"),V.str (Str.ofString "tell"),V.str (Str.ofString "take")]) hp2
  refine ⟨p2,_,rfl,.inl (SqL.of Zag),rfl,rfl,?_⟩
  generalize upd H1 p2 (.lst [V.str (Str.ofString "test"),V.str (Str.ofString "tell"),V.str (Str.ofString "take")])=H2 at s2
  have hown:(if false=true then !inV (V.str st.deed.word) [V.str (Str.ofString "test"),V.str (Str.ofString "tell"),V.str (Str.ofString "take")] else inV (V.str st.deed.word) [V.str (Str.ofString "test"),V.str (Str.ofString "tell"),V.str (Str.ofString "take")])=st.deed.own:=by
   rcases hwd with ⟨h1,h2⟩|⟨h1,h2⟩|⟨h1,h2⟩|⟨h1,h2⟩ <;> rw[h1,h2] <;> decide
  rw[hown]
  have s12:=s1.trans s2
  have sa2:=sa.mono s12
  walk_at"rdx"
  refine Zak (v:=.int h.gone) sa2.obj rfl ?_
  walk_at"rdx"
  have hg:e.rows+(if st.deed.own then 1 else 0)=ZbK st.deed e:=by
   unfold ZbK
   cases st.deed.own with
   | true=>rfl
   | false=>exact Int.add_zero _
  rw[hg]
  refine Zbr (fun hs=>?_) (fun hs=>?_)
  ·rw[if_pos hs] at hy
   refine iteT ?_
   walk_at"rdx"
   walk_at"mk";intro T hT
   exact k1 _ T _ (by rw[he];exact hy) (s12.trans (Same.new hT)) Zag
  rw[if_neg hs] at hy
  have eo:=eo e he hy
  have nt:∀ {A B:Prop},B->if decide (st.deed.word=Str.ofString "take")=true then A else B:=fun b=>Zao (by rcases hwd with ⟨h1,_⟩|⟨h1,_⟩|⟨h1,_⟩|⟨h1,_⟩ <;> rw[h1] <;> decide) b
  walk_at"rdx"
  refine Zaq (v:=.str st.deed.word) (s12 _ _ hd) (Zaw (n:=0) rfl rfl) ?_
  walk_at"rdx"
  refine nt ?_
  refine iteF ?_
  refine Za5 ?_
  have fin:∀ (H3:Hp) (h3:HS),SA ps sf sn sl gz H3 h3 ve->OSame (ownA ps sf sn sl gz) H1 H3->h3.gone=h.gone->hA Pg h st ws e={ h3 with gone:=h.gone+ZbK st.deed e }->(tSeq (tIfS (ZaW (tOp rEq (tOp (rIxA K) (tVar 8) (tC (.int 0))) (tC (.str "take")))) (tAsg (tOp rCat (tVar 4) (tLst (Zae (tBM K "list" Ze0 (tOp (rIxA K) (tVar 2) (tC (.int 1))) (Zae (tC (.int 0)) tNil)) tNil))) (ZaI 4)) ZbH) (tSeq (tAsg (tOp (rI0 fun i j=>.int (i+j)) (tOp (rIxA K) (tVar 2) (tC (.int 3))) (tVar 16)) (gSub (tVar 2) (tC (.int 3)) Zco)) (tRet (tTup (Zae (tC .non) (Zae (tOp (rIxA K) (tVar 13) (tC (.int 2))) (Zae (ZeS ["form"] [4] (iTup K (tOp (rIxA K) (tVar 13) (tC (.int 1)))) (ZaI 0) Zfh (ZaQ (Zbe K) [] E0 (Zae (tVar 0) (Zae (tVar 1) tNil)))) tNil))))))) { nx:=fun _ H'=>Q .non H',rt:=Q } [some (.ref pp),some (.ref q),some (.ref ps),some (.int most),some (.ref qw),some (.int k),c6,some (.ref l),some (.ref td),c9,c10,c11,c12,some (.ref te),some (.int num),c15,some (.int (ZbK st.deed e))] H3:=by
   intro H3 h3 sa3 o3 hg3 hA3
   have nt1:=(sa.mono s1).notup
   have ts3:=o3.ts nt1
   walk_at"rdx"
   refine Zaq (v:=.str st.deed.word) (ts3 _ _ (s1 _ _ hd)) (Zaw (n:=0) rfl rfl) ?_
   walk_at"rdx"
   refine nt ?_
   refine Za5 ?_
   walk_at"rdx"
   refine Zak (v:=.int h3.gone) sa3.obj rfl ?_
   walk_at"rdx"
   refine Zbh sa3.obj rfl ?_
   rw[hg3]
   obtain ⟨a4,o4⟩:=sa3.goneG (h.gone+ZbK st.deed e)
   rw[<-hA3] at a4
   have o34:=o3.trans o4 (fun x hx=>.inl hx)
   have hq4:upd H3 ps (.lst [.ref sf,.ref sl,.ref sn,.int (h.gone+ZbK st.deed e),ve]) qw=some (.lst (ws.map V.int)):=o34 _ _ nqw (s1 _ _ hqw)
   have ts14:TSame H1 (upd H3 ps (.lst [.ref sf,.ref sl,.ref sn,.int (h.gone+ZbK st.deed e),ve])):=o34.ts nt1
   have hte4:=ts14 _ _ hte
   have hqm4:=ts14 _ _ hqm
   have rm4:=rm.mono ts14
   show (tRet (tTup (Zae (tC .non) (Zae (tOp (rIxA K) (tVar 13) (tC (.int 2))) (Zae (ZeS ["form"] [4] (iTup K (tOp (rIxA K) (tVar 13) (tC (.int 1)))) (ZaI 0) Zfh (ZaQ (Zbe K) [] E0 (Zae (tVar 0) (Zae (tVar 1) tNil)))) tNil))))) { nx:=fun _ H'=>Q .non H',rt:=Q } [some (.ref pp),some (.ref q),some (.ref ps),some (.int most),some (.ref qw),some (.int k),c6,some (.ref l),some (.ref td),c9,c10,c11,c12,some (.ref te),some (.int num),c15,some (.int (ZbK st.deed e))] (upd H3 ps (.lst [.ref sf,.ref sl,.ref sn,.int (h.gone+ZbK st.deed e),ve]))
   generalize upd H3 ps (.lst [.ref sf,.ref sl,.ref sn,.int (h.gone+ZbK st.deed e),ve])=H4 at a4 o4 o34 hq4 hte4 hqm4 rm4
   have hml:=rm.length
   rw[length_map] at hml
   have hmf:=eo.few
   walk_at"rdx"
   refine Zaq (v:=.int e.k) hte4 rfl ?_
   walk_at"rdx"
   refine Zaq (v:=.ref qm) hte4 rfl ?_
   walk_at"rdx"
   refine Zlz (SqT.of hqm4) ?_
   refine ZeI (xs:=ms) (Za2 (by lia)) (fun i zs σ Hx=>An3 (∃ x1,σ=[x1,some (.ref qw)]) (Same H4 Hx) (zs=((e.moves.take i).map (wF ws)).map V.int)) ⟨⟨none,rfl⟩,Same.refl _,rfl⟩ (fun i zs σ Hx _ z_=>by obtain ⟨_,s1,_⟩:=z_;exact SqT.of (s1 _ _ hqm4)) ?_ ?_
   ·rintro i x zs σ Hx hx hle hlt ⟨⟨x1,rfl⟩,sx,rfl⟩
    obtain ⟨d,ed,rd⟩:=rm4.get' hx
    rw[getElem?_map] at ed
    obtain ⟨fm,ef,rfl⟩:=Option.map_eq_some_iff.mp ed
    have fo:=eo.fms fm (mem_of_getElem? ef)
    walk_at"rdx"
    refine use2 ⟨fm.1,fm.2,qw,ws,rd.mono sx.ts,rfl,SqL.of (sx _ _ hq4),Nat.le_trans fo.l (by decide),fun p hp=>⟨(fo.p p hp).2.1,(fo.p p hp).2.2,Zce (fo.p p hp).1⟩,fun z hz=>Zce (ok.wo.2 z hz),fun H5 s5=>?_⟩
    refine ⟨hlt,by simp;lia,⟨_,rfl⟩,sx.trans s5,?_⟩
    rw[take_add_one,ef]
    simp[wF]
   ·rintro zs σ Hx hzl ⟨⟨x1,rfl⟩,sx,rfl⟩ q5 hq5
    rw[<-hml,take_length]
    have s6:=Same.new (o:=.lst ((e.moves.map (wF ws)).map V.int)) hq5
    have e6:upd Hx q5 (.lst ((e.moves.map (wF ws)).map V.int)) q5=some (.lst ((e.moves.map (wF ws)).map V.int)):=Zag
    generalize upd Hx q5 (.lst ((e.moves.map (wF ws)).map V.int))=H6 at s6 e6
    have s46:=sx.trans s6
    walk_at"rdx"
    walk_at"mk";intro T hT
    have s7:=Same.new (o:=.tup [V.non,.int e.k,.ref q5]) hT
    have nq5:q5∉ownA ps sf sn sl gz:=fun hm=>by
     rw[<-Zbg (h:=hA Pg h st ws e) (ve:=ve)] at hm
     obtain ⟨ob,hob,rfl⟩:=mem_map.mp hm
     have:=a4.all _ hob
     rw[sx _ _ this] at hq5
     cases hq5
    refine k2 e T q5 _ he hy Zag (s7 _ _ e6) nq5 ?_ (a4.mono (s46.trans s7)) (fun b o nb eb=>(s46.trans s7) _ _ (o34 b o nb (s1 _ _ eb)))
    cases hz:H q5 with
    | none=>rfl
    | some o =>
     rw[sx _ _ (o34 q5 o nq5 (s1 _ _ hz))] at hq5
     cases hq5
  walk_at"rdx"
  refine Zaq (v:=.str st.deed.word) (s12 _ _ hd) (Zaw (n:=0) rfl rfl) ?_
  walk_at"rdx"
  by_cases htell:∃ e',st.deed=.tell e'
  ·obtain ⟨e',hdd⟩:=htell
   refine ZaJ (by rw[hdd];rfl) ?_
   walk_at"rdx"
   refine Zak (v:=.ref sn) sa2.obj rfl ?_
   refine ⟨.inl ⟨rfl,_,SqL.of sa2.nl⟩,?_⟩
   walk_at"rdx"
   refine ZbM sa2.nl (Nat.lt_of_le_of_lt (show (h.news.map V.int).length<=200000 by rw[length_map];exact few) (by rw[sizeLine_eq];decide)) ?_
   have e2:h.news.map V.int++[V.int num]=(h.news++[num]).map V.int:=by simp
   rw[e2]
   obtain ⟨a3,o3⟩:=sa2.newsG (h.news++[num])
   refine fin _ _ a3 (fun b o nb eb=>o3 _ _ nb (s2 _ _ eb)) rfl ?_
   unfold hA
   rw[hdd,hnum e' hdd]
  ·refine Zao (fun z=>?_) ?_
   ·rcases ng with ⟨y,n,hdd⟩|⟨e',hdd⟩|⟨a,b,c,hdd⟩|hdd
    ·rw[hdd] at z;exact absurd z (by show ¬ (Str.ofString "test")=_;decide)
    ·exact htell ⟨e',hdd⟩
    ·rw[hdd] at z;exact absurd z (by show ¬ (Str.ofString "hold")=_;decide)
    ·rw[hdd] at z;exact absurd z (by show ¬ (Str.ofString "leave")=_;decide)
   refine Za5 ?_
   refine fin _ _ sa2 (OSame.of s2) rfl ?_
   unfold hA
   rcases ng with ⟨y,n,hdd⟩|⟨e',hdd⟩|⟨a,b,c,hdd⟩|hdd
   ·rw[hdd]
   ·exact absurd ⟨e',hdd⟩ htell
   ·rw[hdd]
   ·rw[hdd]
 walk_at"rdx"
 refine Zak (v:=.ref t) (s0 _ _ la.lst) (Zaw (n:=k) rfl hx) ?_
 refine Zb4 ht rfl ?_
 walk_at"rdx"
 refine Zaq (v:=.str st.deed.word) hd (Zaw (n:=0) rfl rfl) ?_
 walk_at"rdx"
 have wo:=ok.wo
 by_cases hle:st.deed=.leave
 ·refine ZaJ (by rw[hle];rfl) ?_
  refine iteT ?_
  walk_at"rdx"
  refine Zaq (v:=.str st.deed.word) hd (Zaw (n:=0) rfl rfl) ?_
  walk_at"rdx"
  refine ZaJ (by rw[hle];rfl) ?_
  walk_at"rdx"
  walk_at"mk";intro T hT
  refine k1 _ T _ ?_ (Same.new hT) Zag
  unfold whyA
  rw[hle]
 refine Zao (fun z=>?_) ?_
 ·rcases ng with ⟨y,n,hdd⟩|⟨e',hdd⟩|⟨a,b,c,hdd⟩|hdd
  ·rw[hdd] at z;exact absurd z (by show ¬ (Str.ofString "test")=_;decide)
  ·rw[hdd] at z;exact absurd z (by show ¬ (Str.ofString "tell")=_;decide)
  ·rw[hdd] at z;exact absurd z (by show ¬ (Str.ofString "hold")=_;decide)
  ·exact hle hdd
 have mid:(∀ a n e,st.deed=.hold a n e->ws.getD a.toNat 0=n)->(tSeq (tAsg (tOp (rIxA K) (tVar 7) (tUn (rU fun i=>V.int (-i)) (tC (.int 1)))) (gTup K 3 (ZcP (ZaI 9) (ZcP (ZaI 10) (ZcP (ZaI 11) gNil))))) (tSeq (tAsg (tOp (rIxA K) (tOp (rIxA K) (tOp (rIxA K) (tVar 0) (tVar 9)) (tC (.int 2))) (tVar 10)) (ZaI 12)) (tSeq (tAsg (tOp (rIxA K) (tVar 8) (tUn (rU fun i=>V.int (-i)) (tC (.int 1)))) (ZaI 13)) (tSeq (tAsg (tIf (ZaW (tOp (rIn K false) (tOp (rIxA K) (tVar 8) (tC (.int 0))) (tLst (Zae (tC (.str "test")) (Zae (tC (.str "tell")) tNil))))) (ZaQ (Zbe K) [] E0 (Zae (tOp (rIxA K) (tVar 11) (tOp (rIxA K) (tVar 12) (tC (.int 1)))) (Zae (tVar 4) tNil))) (tC (.int 0))) (ZaI 14)) (tSeq (tAsg (tIf (ZaW (tOp rEq (tOp (rIxA K) (tVar 12) (tC (.int 0))) (tC (.str "zero")))) (tOp rEq (tVar 14) (tC (.int 0))) (tOp (rI0 fun i j=>.bl (decide (i < j))) (tVar 14) (tC (.int 0)))) (ZaI 15)) (tSeq (tIfS (tAnd (ZaW (tOp rEq (tOp (rIxA K) (tVar 8) (tC (.int 0))) (tC (.str "test")))) (tB (tVar 15))) (tAsg (tOp (rIxA K) (tVar 8) (tC (.int 1))) (ZaI 13)) ZbH) (tSeq (tAsg (tOp (rI0 fun i j=>.int (i+j)) (tOp (rIxA K) (tVar 13) (tC (.int 0))) (tCB rInt (Zae (tOp (rIn K false) (tOp (rIxA K) (tVar 8) (tC (.int 0))) (tLst (Zae (tC (.str "test")) (Zae (tC (.str "tell")) (Zae (tC (.str "take")) tNil))))) tNil))) (ZaI 16)) (tSeq (tIfS (tOr (ZaW (tOp (rI0 fun i j=>.bl (decide (j < i))) (tOp (rI0 fun i j=>.int (i+j)) (tOp (rIxA K) (tVar 2) (tC (.int 3))) (tVar 16)) (tVar 3))) (tAnd (ZaW (tOp rEq (tOp (rIxA K) (tVar 8) (tC (.int 0))) (tC (.str "take")))) (ZaW (tOp (rEqL K) (tOp (rIxA K) (tVar 2) (tC (.int 1))) (tLst tNil))))) (tRet (tTup (Zae (tC (.str "short")) (Zae (tVar 5) (Zae (tVar 4) tNil))))) ZbH) (tSeq (tIfS (ZaW (tOp rEq (tOp (rIxA K) (tVar 8) (tC (.int 0))) (tC (.str "tell")))) (ZdI (tBM K "list" ZcK (tOp (rIxA K) (tVar 2) (tC (.int 2))) (Zae (tVar 14) tNil))) ZbH) (tSeq (tIfS (ZaW (tOp rEq (tOp (rIxA K) (tVar 8) (tC (.int 0))) (tC (.str "take")))) (tAsg (tOp rCat (tVar 4) (tLst (Zae (tBM K "list" Ze0 (tOp (rIxA K) (tVar 2) (tC (.int 1))) (Zae (tC (.int 0)) tNil)) tNil))) (ZaI 4)) ZbH) (tSeq (tAsg (tOp (rI0 fun i j=>.int (i+j)) (tOp (rIxA K) (tVar 2) (tC (.int 3))) (tVar 16)) (gSub (tVar 2) (tC (.int 3)) Zco)) (tRet (tTup (Zae (tC .non) (Zae (tOp (rIxA K) (tVar 13) (tC (.int 2))) (Zae (ZeS ["form"] [4] (iTup K (tOp (rIxA K) (tVar 13) (tC (.int 1)))) (ZaI 0) Zfh (ZaQ (Zbe K) [] E0 (Zae (tVar 0) (Zae (tVar 1) tNil)))) tNil)))))))))))))))) { nx:=fun _ H'=>Q .non H',rt:=Q } [some (.ref pp),some (.ref q),some (.ref ps),some (.int most),some (.ref qw),some (.int k),some (.int st.many),some (.ref l),some (.ref td),none,none,none,none,none,none,none,none] H:=by
  intro hold
  obtain ⟨vs,hv,hnp,hlv,hdv⟩:=pg
  have hlt:sfr.1.toNat < vs.length:=by rw[hlv];exact (List.getElem?_eq_some_iff.mp ed).1
  obtain ⟨t2,q2,ys2,e1,g1,g2,_,rrs⟩:=hdv _ _ _ ed (getElem?_eq_getElem hlt)
  obtain ⟨rv,erv,rrv⟩:=rrs.get (i:=sfr.2.1.toNat) (d:=rowD rr.row) (by show (dd.rows.map _)[_]?=_;rw[getElem?_map,er];rfl)
  walk_at"rdx"
  refine Zak hl hyl ?_
  refine Zb4 hfr rfl ?_
  walk_at"rdx"
  refine Zak hv (Zaw (n:=sfr.1.toNat) (by lia) (getElem?_eq_getElem hlt)) ?_
  rw[e1]
  walk_at"rdx"
  refine Zaq (v:=.ref q2) g1 rfl ?_
  walk_at"rdx"
  refine Zak g2 (Zaw (n:=sfr.2.1.toNat) (by lia) erv) ?_
  walk_at"rdx"
  have num:∀ {R:VK},st.deed.asks=true->∀ H1,Same H H1->(∀ u,Rep H1 (fmD (sfr.2.2.getD rr.box1.toNat (0,[]))) u->R u H1)->rIxA K rv (.int 1) H1 (fun y H2=>rIxA K (.ref fa) y H2 R):=fun {R} hask H1 s1 kn=>by
   obtain ⟨b0,b1⟩:=ask hask
   refine Zaz (n:=0) (rrv.mono s1.ts) rfl (Zjf hask fit) ?_
   obtain ⟨u,eu,ru⟩:=rxf.get (i:=rr.box1.toNat) (d:=fmD (sfr.2.2.getD rr.box1.toNat (0,[]))) (by rw[getElem?_map,getD_eq_getElem?_getD,getElem?_eq_getElem b1];rfl)
   exact Zaq (s1 _ _ hfa) (Zaw (n:=rr.box1.toNat) (by lia) eu) (kn u (ru.mono s1.ts))
  have wth:∀ {R:VK} {u:V},st.deed.asks=true->∀ H1,Same H H1->Rep H1 (fmD (sfr.2.2.getD rr.box1.toNat (0,[]))) u->(∀ H2,Same H1 H2->R (.int (boxN Pg st ws)) H2)->Zbe K [u,.ref qw] H1 R E0:=fun {R u} hask H1 s1 ru kn=>by
   obtain ⟨b0,b1⟩:=ask hask
   have hm:sfr.2.2.getD rr.box1.toNat (0,[])∈sfr.2.2:=by
    rw[getD_eq_getElem?_getD,getElem?_eq_getElem b1]
    exact getElem_mem b1
   have fo':=fo _ hm
   refine use2 ⟨_,_,qw,ws,ru,rfl,SqL.of (s1 _ _ hqw),Nat.le_trans fo'.l (by decide),fun p hp=>⟨(fo'.p p hp).2.1,(fo'.p p hp).2.2,Zce (fo'.p p hp).1⟩,fun z hz=>Zce (ok.wo.2 z hz),fun H' s'=>?_⟩
   have:=kn H' s'
   rw[bn] at this
   exact this
  have ovr:∀ (e:Edg) (v13:V) (nm:Int) (H2:Hp),Same H H2->Rep H2 e.d v13->st.deed.word≠Str.ofString "test"->Za1 Pg st ws=some e->(∀ e',st.deed=.tell e'->nm=boxN Pg st ws)->whyA most h st ws (some e)=(if most < h.gone+ZbK st.deed e then some (Str.ofString "short") else none)->(tSeq (tAsg (tIf (ZaW (tOp rEq (tOp (rIxA K) (tVar 12) (tC (.int 0))) (tC (.str "zero")))) (tOp rEq (tVar 14) (tC (.int 0))) (tOp (rI0 fun i j=>.bl (decide (i < j))) (tVar 14) (tC (.int 0)))) (ZaI 15)) (tSeq (tIfS (tAnd (ZaW (tOp rEq (tOp (rIxA K) (tVar 8) (tC (.int 0))) (tC (.str "test")))) (tB (tVar 15))) (tAsg (tOp (rIxA K) (tVar 8) (tC (.int 1))) (ZaI 13)) ZbH) (tSeq (tAsg (tOp (rI0 fun i j=>.int (i+j)) (tOp (rIxA K) (tVar 13) (tC (.int 0))) (tCB rInt (Zae (tOp (rIn K false) (tOp (rIxA K) (tVar 8) (tC (.int 0))) (tLst (Zae (tC (.str "test")) (Zae (tC (.str "tell")) (Zae (tC (.str "take")) tNil))))) tNil))) (ZaI 16)) (tSeq (tIfS (tOr (ZaW (tOp (rI0 fun i j=>.bl (decide (j < i))) (tOp (rI0 fun i j=>.int (i+j)) (tOp (rIxA K) (tVar 2) (tC (.int 3))) (tVar 16)) (tVar 3))) (tAnd (ZaW (tOp rEq (tOp (rIxA K) (tVar 8) (tC (.int 0))) (tC (.str "take")))) (ZaW (tOp (rEqL K) (tOp (rIxA K) (tVar 2) (tC (.int 1))) (tLst tNil))))) (tRet (tTup (Zae (tC (.str "short")) (Zae (tVar 5) (Zae (tVar 4) tNil))))) ZbH) (tSeq (tIfS (ZaW (tOp rEq (tOp (rIxA K) (tVar 8) (tC (.int 0))) (tC (.str "tell")))) (ZdI (tBM K "list" ZcK (tOp (rIxA K) (tVar 2) (tC (.int 2))) (Zae (tVar 14) tNil))) ZbH) (tSeq (tIfS (ZaW (tOp rEq (tOp (rIxA K) (tVar 8) (tC (.int 0))) (tC (.str "take")))) (tAsg (tOp rCat (tVar 4) (tLst (Zae (tBM K "list" Ze0 (tOp (rIxA K) (tVar 2) (tC (.int 1))) (Zae (tC (.int 0)) tNil)) tNil))) (ZaI 4)) ZbH) (tSeq (tAsg (tOp (rI0 fun i j=>.int (i+j)) (tOp (rIxA K) (tVar 2) (tC (.int 3))) (tVar 16)) (gSub (tVar 2) (tC (.int 3)) Zco)) (tRet (tTup (Zae (tC .non) (Zae (tOp (rIxA K) (tVar 13) (tC (.int 2))) (Zae (ZeS ["form"] [4] (iTup K (tOp (rIxA K) (tVar 13) (tC (.int 1)))) (ZaI 0) Zfh (ZaQ (Zbe K) [] E0 (Zae (tVar 0) (Zae (tVar 1) tNil)))) tNil)))))))))))) { nx:=fun _ H'=>Q .non H',rt:=Q } [some (.ref pp),some (.ref q),some (.ref ps),some (.int most),some (.ref qw),some (.int k),some (.int st.many),some (.ref l),some (.ref td),some (.int sfr.1),some (.int sfr.2.1),some (.ref fa),some rv,some v13,some (.int nm),none,none] H2:=by
   intro e v13 nm H2 s2 re nw hea hnm hyw
   have aft:∀ ob:Bool,(tSeq (tIfS (tAnd (ZaW (tOp rEq (tOp (rIxA K) (tVar 8) (tC (.int 0))) (tC (.str "test")))) (tB (tVar 15))) (tAsg (tOp (rIxA K) (tVar 8) (tC (.int 1))) (ZaI 13)) ZbH) (tSeq (tAsg (tOp (rI0 fun i j=>.int (i+j)) (tOp (rIxA K) (tVar 13) (tC (.int 0))) (tCB rInt (Zae (tOp (rIn K false) (tOp (rIxA K) (tVar 8) (tC (.int 0))) (tLst (Zae (tC (.str "test")) (Zae (tC (.str "tell")) (Zae (tC (.str "take")) tNil))))) tNil))) (ZaI 16)) (tSeq (tIfS (tOr (ZaW (tOp (rI0 fun i j=>.bl (decide (j < i))) (tOp (rI0 fun i j=>.int (i+j)) (tOp (rIxA K) (tVar 2) (tC (.int 3))) (tVar 16)) (tVar 3))) (tAnd (ZaW (tOp rEq (tOp (rIxA K) (tVar 8) (tC (.int 0))) (tC (.str "take")))) (ZaW (tOp (rEqL K) (tOp (rIxA K) (tVar 2) (tC (.int 1))) (tLst tNil))))) (tRet (tTup (Zae (tC (.str "short")) (Zae (tVar 5) (Zae (tVar 4) tNil))))) ZbH) (tSeq (tIfS (ZaW (tOp rEq (tOp (rIxA K) (tVar 8) (tC (.int 0))) (tC (.str "tell")))) (ZdI (tBM K "list" ZcK (tOp (rIxA K) (tVar 2) (tC (.int 2))) (Zae (tVar 14) tNil))) ZbH) (tSeq (tIfS (ZaW (tOp rEq (tOp (rIxA K) (tVar 8) (tC (.int 0))) (tC (.str "take")))) (tAsg (tOp rCat (tVar 4) (tLst (Zae (tBM K "list" Ze0 (tOp (rIxA K) (tVar 2) (tC (.int 1))) (Zae (tC (.int 0)) tNil)) tNil))) (ZaI 4)) ZbH) (tSeq (tAsg (tOp (rI0 fun i j=>.int (i+j)) (tOp (rIxA K) (tVar 2) (tC (.int 3))) (tVar 16)) (gSub (tVar 2) (tC (.int 3)) Zco)) (tRet (tTup (Zae (tC .non) (Zae (tOp (rIxA K) (tVar 13) (tC (.int 2))) (Zae (ZeS ["form"] [4] (iTup K (tOp (rIxA K) (tVar 13) (tC (.int 1)))) (ZaI 0) Zfh (ZaQ (Zbe K) [] E0 (Zae (tVar 0) (Zae (tVar 1) tNil)))) tNil))))))))))) { nx:=fun _ H'=>Q .non H',rt:=Q } [some (.ref pp),some (.ref q),some (.ref ps),some (.int most),some (.ref qw),some (.int k),some (.int st.many),some (.ref l),some (.ref td),some (.int sfr.1),some (.int sfr.2.1),some (.ref fa),some rv,some v13,some (.int nm),some (.bl ob),none] H2:=fun ob=>by
    walk_at"rdx"
    refine Zaq (v:=.str st.deed.word) (s2 _ _ hd) (Zaw (n:=0) rfl rfl) ?_
    walk_at"rdx"
    refine Zao nw ?_
    refine iteF ?_
    refine Za5 ?_
    exact tail e v13 nm _ _ _ _ _ _ H2 s2 re hea hnm hyw
   walk_at"rdx"
   refine Zah (rrv.mono s2.ts) ?_
   walk_at"rdx"
   refine Zbr (fun hz=>?_) (fun hz=>?_)
   ·refine ZfM ⟨_,rfl,rd_c (Zgx ?_)⟩
    refine ZaC ?_
    exact aft _
   ·refine ZfM ⟨_,rfl,rd_c ⟨_,_,rfl,rfl,?_⟩⟩
    refine ZaC ?_
    exact aft _
  rcases ng with ⟨y,n,hdd⟩|⟨e',hdd⟩|⟨a,b,c,hdd⟩|hdd
  ·rw[hdd] at rx
   obtain ⟨vy,zr,rfl,ry,rz⟩:=Zaj rx
   obtain ⟨vn,zr,rfl,rn,rz⟩:=Zaj rz
   obtain rfl:=ZaD rz
   refine Zaq (v:=vn) hd rfl ?_
   walk_at"rdx"
   refine Zaq (v:=.str st.deed.word) hd (Zaw (n:=0) rfl rfl) ?_
   walk_at"rdx"
   walk_at"mk";intro p1 hp1
   have s1:=Same.new (o:=.lst [V.str (Str.ofString "test"),V.str (Str.ofString "tell")]) hp1
   refine ⟨p1,_,rfl,.inl (SqL.of Zag),rfl,rfl,?_⟩
   generalize upd H p1 (.lst [V.str (Str.ofString "test"),V.str (Str.ofString "tell")])=H1 at s1
   rw[hdd]
   refine ⟨_,rfl,?_⟩
   refine Zew (show (inV (V.str (Str.ofString "test")) [V.str (Str.ofString "test"),V.str (Str.ofString "tell")])=true by decide) ?_
   have hask:st.deed.asks=true:=by rw[hdd];rfl
   walk_at"rdx"
   refine num hask _ s1 fun u ru=>?_
   walk_at"rdx"
   refine wth hask _ s1 ru fun H2 s2=>?_
   have s12:=s1.trans s2
   walk_at"rdx"
   have hyw:∀ e,whyA most h st ws (some e)=(if most < h.gone+ZbK st.deed e then some (Str.ofString "short") else none):=fun e=>by
    unfold whyA
    rw[hdd]
   have aft:∀ ob:Bool,ob=rr.goes (boxN Pg st ws)->(tSeq (tIfS (tAnd (ZaW (tOp rEq (tOp (rIxA K) (tVar 8) (tC (.int 0))) (tC (.str "test")))) (tB (tVar 15))) (tAsg (tOp (rIxA K) (tVar 8) (tC (.int 1))) (ZaI 13)) ZbH) (tSeq (tAsg (tOp (rI0 fun i j=>.int (i+j)) (tOp (rIxA K) (tVar 13) (tC (.int 0))) (tCB rInt (Zae (tOp (rIn K false) (tOp (rIxA K) (tVar 8) (tC (.int 0))) (tLst (Zae (tC (.str "test")) (Zae (tC (.str "tell")) (Zae (tC (.str "take")) tNil))))) tNil))) (ZaI 16)) (tSeq (tIfS (tOr (ZaW (tOp (rI0 fun i j=>.bl (decide (j < i))) (tOp (rI0 fun i j=>.int (i+j)) (tOp (rIxA K) (tVar 2) (tC (.int 3))) (tVar 16)) (tVar 3))) (tAnd (ZaW (tOp rEq (tOp (rIxA K) (tVar 8) (tC (.int 0))) (tC (.str "take")))) (ZaW (tOp (rEqL K) (tOp (rIxA K) (tVar 2) (tC (.int 1))) (tLst tNil))))) (tRet (tTup (Zae (tC (.str "short")) (Zae (tVar 5) (Zae (tVar 4) tNil))))) ZbH) (tSeq (tIfS (ZaW (tOp rEq (tOp (rIxA K) (tVar 8) (tC (.int 0))) (tC (.str "tell")))) (ZdI (tBM K "list" ZcK (tOp (rIxA K) (tVar 2) (tC (.int 2))) (Zae (tVar 14) tNil))) ZbH) (tSeq (tIfS (ZaW (tOp rEq (tOp (rIxA K) (tVar 8) (tC (.int 0))) (tC (.str "take")))) (tAsg (tOp rCat (tVar 4) (tLst (Zae (tBM K "list" Ze0 (tOp (rIxA K) (tVar 2) (tC (.int 1))) (Zae (tC (.int 0)) tNil)) tNil))) (ZaI 4)) ZbH) (tSeq (tAsg (tOp (rI0 fun i j=>.int (i+j)) (tOp (rIxA K) (tVar 2) (tC (.int 3))) (tVar 16)) (gSub (tVar 2) (tC (.int 3)) Zco)) (tRet (tTup (Zae (tC .non) (Zae (tOp (rIxA K) (tVar 13) (tC (.int 2))) (Zae (ZeS ["form"] [4] (iTup K (tOp (rIxA K) (tVar 13) (tC (.int 1)))) (ZaI 0) Zfh (ZaQ (Zbe K) [] E0 (Zae (tVar 0) (Zae (tVar 1) tNil)))) tNil))))))))))) { nx:=fun _ H'=>Q .non H',rt:=Q } [some (.ref pp),some (.ref q),some (.ref ps),some (.int most),some (.ref qw),some (.int k),some (.int st.many),some (.ref l),some (.ref td),some (.int sfr.1),some (.int sfr.2.1),some (.ref fa),some rv,some vn,some (.int (boxN Pg st ws)),some (.bl ob),none] H2:=fun ob hob=>by
    have hea:Za1 Pg st ws=some (if ob=true then y else n):=by
     unfold Za1
     rw[hdd]
     dsimp only
     rw[lr,Option.map_some,hob]
     cases rr.goes (boxN Pg st ws) <;> rfl
    walk_at"rdx"
    refine Zaq (v:=.str st.deed.word) (s12 _ _ hd) (Zaw (n:=0) rfl rfl) ?_
    walk_at"rdx"
    refine ZaJ (by rw[hdd];rfl) ?_
    refine ⟨_,rfl,_,rfl,?_⟩
    cases ob with
    | true =>
     refine iteT ?_
     walk_at"rdx"
     refine Zaq (v:=vy) (s12 _ _ hd) rfl ?_
     refine ZaC ?_
     exact tail y vy _ _ _ _ _ _ _ H2 s12 (ry.mono s12.ts) hea (fun e' z=>Dd.noConfusion (hdd.symm.trans z)) (hyw y)
    | false =>
     refine iteF ?_
     refine Za5 ?_
     exact tail n vn _ _ _ _ _ _ _ H2 s12 (rn.mono s12.ts) hea (fun e' z=>Dd.noConfusion (hdd.symm.trans z)) (hyw n)
   have hgo:=ZjU hdd fit (boxN Pg st ws)
   refine Zah (rrv.mono s12.ts) ?_
   walk_at"rdx"
   refine Zbr (fun hz=>?_) (fun hz=>?_)
   ·rw[if_pos hz] at hgo
    refine ZfM ⟨_,rfl,rd_c (Zgx ?_)⟩
    refine ZaC ?_
    exact aft _ hgo
   ·rw[if_neg hz] at hgo
    refine ZfM ⟨_,rfl,rd_c ⟨_,_,rfl,rfl,?_⟩⟩
    refine ZaC ?_
    exact aft _ hgo
  ·rw[hdd] at rx
   obtain ⟨vy,zr,rfl,ry,rz⟩:=Zaj rx
   obtain rfl:=ZaD rz
   refine Zaq (v:=vy) hd rfl ?_
   walk_at"rdx"
   refine Zaq (v:=.str st.deed.word) hd (Zaw (n:=0) rfl rfl) ?_
   walk_at"rdx"
   walk_at"mk";intro p1 hp1
   have s1:=Same.new (o:=.lst [V.str (Str.ofString "test"),V.str (Str.ofString "tell")]) hp1
   refine ⟨p1,_,rfl,.inl (SqL.of Zag),rfl,rfl,?_⟩
   generalize upd H p1 (.lst [V.str (Str.ofString "test"),V.str (Str.ofString "tell")])=H1 at s1
   rw[hdd]
   refine ⟨_,rfl,?_⟩
   refine Zew (show (inV (V.str (Str.ofString "tell")) [V.str (Str.ofString "test"),V.str (Str.ofString "tell")])=true by decide) ?_
   have hask:st.deed.asks=true:=by rw[hdd];rfl
   walk_at"rdx"
   refine num hask _ s1 fun u ru=>?_
   walk_at"rdx"
   refine wth hask _ s1 ru fun H2 s2=>?_
   have s12:=s1.trans s2
   refine ZaC ?_
   exact ovr e' vy _ H2 s12 (ry.mono s12.ts) (by rw[hdd];show ¬ (Str.ofString "tell")=_;decide) (by unfold Za1;rw[hdd];rfl) (fun _ _=>rfl) (by unfold whyA;rw[hdd])
  ·rw[hdd] at rx
   obtain ⟨u1,zr,rfl,ry1,rz⟩:=Zaj rx
   obtain ⟨u2,zr,rfl,ry2,rz⟩:=Zaj rz
   obtain ⟨vy,zr,rfl,ry,rz⟩:=Zaj rz
   obtain rfl:=ZaD rz
   refine Zaq (v:=vy) hd rfl ?_
   walk_at"rdx"
   refine Zaq (v:=.str st.deed.word) hd (Zaw (n:=0) rfl rfl) ?_
   walk_at"rdx"
   walk_at"mk";intro p1 hp1
   have s1:=Same.new (o:=.lst [V.str (Str.ofString "test"),V.str (Str.ofString "tell")]) hp1
   refine ⟨p1,_,rfl,.inl (SqL.of Zag),rfl,rfl,?_⟩
   generalize upd H p1 (.lst [V.str (Str.ofString "test"),V.str (Str.ofString "tell")])=H1 at s1
   rw[hdd]
   refine ⟨_,rfl,?_⟩
   refine Ze8 (show (inV (V.str (Str.ofString "hold")) [V.str (Str.ofString "test"),V.str (Str.ofString "tell")])=false by decide) ?_
   refine rd_c ?_
   refine ZaC ?_
   exact ovr c vy 0 H1 s1 (ry.mono s1.ts) (by rw[hdd];show ¬ (Str.ofString "hold")=_;decide) (by unfold Za1;rw[hdd];rfl) (fun e' z=>Dd.noConfusion (hdd.symm.trans z)) (by unfold whyA;rw[hdd];dsimp only;rw[if_pos (hold a b c hdd)])
  ·exact absurd hdd hle
 walk_at"rdx"
 refine Zaq (v:=.str st.deed.word) hd (Zaw (n:=0) rfl rfl) ?_
 walk_at"rdx"
 by_cases hho:∃ a n e,st.deed=.hold a n e
 ·obtain ⟨a,n,e,hdd⟩:=hho
  obtain ⟨a0',a1'⟩:=ok.hold a n e hdd
  have rx':=rx
  rw[hdd] at rx'
  obtain ⟨u1,zr,e1,ry1,rz⟩:=Zaj rx'
  obtain ⟨u2,zr2,e2,ry2,rz⟩:=Zaj rz
  obtain rfl:=ZaK ry1
  obtain rfl:=ZaK ry2
  subst e2
  subst e1
  refine ZaJ (by rw[hdd];rfl) ?_
  walk_at"rdx"
  refine Zaq (v:=.int a) hd (Zaw (n:=1) rfl rfl) ?_
  have hwa:ws[a.toNat]?=some (ws.getD a.toNat 0):=by rw[getD_eq_getElem?_getD,getElem?_eq_getElem a1'];rfl
  refine Zak hqw (Zaw (n:=a.toNat) (by lia) (by rw[getElem?_map,hwa];rfl)) ?_
  walk_at"rdx"
  refine Zaq (v:=.int n) hd (Zaw (n:=2) rfl rfl) ?_
  walk_at"rdx"
  refine ZeG (fun hne=>?_) (fun hne=>?_)
  ·walk_at"rdx"
   refine Zaq (v:=.str st.deed.word) hd (Zaw (n:=0) rfl rfl) ?_
   walk_at"rdx"
   refine Zao (by rw[hdd];show ¬ (Str.ofString "hold")=_;decide) ?_
   walk_at"rdx"
   walk_at"mk";intro T hT
   refine k1 _ T _ ?_ (Same.new hT) Zag
   unfold whyA Za1
   rw[hdd]
   dsimp only
   show (if _ then _ else some (Str.ofString "fall"))=_
   rw[if_neg hne]
  ·refine Za5 ?_
   refine mid fun a' n' e' z=>?_
   rw[hdd] at z
   cases z
   lia
 ·refine Zao (fun z=>?_) ?_
  ·rcases ng with ⟨y,n,hdd⟩|⟨e',hdd⟩|⟨a,b,c,hdd⟩|hdd
   ·rw[hdd] at z;exact absurd z (by show ¬ (Str.ofString "test")=_;decide)
   ·rw[hdd] at z;exact absurd z (by show ¬ (Str.ofString "tell")=_;decide)
   ·exact hho ⟨a,b,c,hdd⟩
   ·exact hle hdd
  refine iteF ?_
  refine Za5 ?_
  exact mid fun a n e z=>absurd ⟨a,n,e,z⟩ hho
end
end My
end
section
namespace My
open PySem L2
section
variable {P:Program} {w:World} {K:W.Frag} {mg:Str->Option Value} {base:Heap}
variable {C CC:Addr}
theorem Zmy {c:TT} {t u:TS} {D':Ends} {σ:St} {H:Hp} (I:Hp->Prop) (hu:∀ H',I H'->u D' σ H') (h:∀ U:Hp->Prop,(∀ H',I H'->U H')->c σ H (fun k H'=>if k=true then t D' σ H' else U H')):tIfS c t u D' σ H:=h _ hu
theorem wsA_ng {h:HS} {st:Std} {ws:List Int} (ng:NoGT st.deed):wsA h st ws=ws:=by
 unfold wsA
 rcases ng with ⟨y,n,hdd⟩|⟨e',hdd⟩|⟨a,b,c,hdd⟩|hdd <;> rw[hdd]
theorem msr {g r most:Int} {M a b:Nat} (hm:g+r<=most) (ha:a<=M) (h:1<=r\/(r=0/\a < b)):(most - (g+r)).toNat * (M+1)+a+1 < (most - g).toNat * (M+1)+b+1:=by
 rcases h with h|⟨h,h2⟩
 ·have h1:(most - (g+r)).toNat+1<=(most - g).toNat:=by lia
  have h3:=Nat.mul_le_mul_right (M+1) h1
  rw[Nat.add_mul] at h3
  lia
 ·subst h
  rw[Int.add_zero]
  lia
inductive Pr_inlane (x y z u v t:V) (H:Hp) (Q:VK):Prop
 | mk (P:List Df) (pp q:Addr) (ys:List V) (sts:List Std) (ps sf sn sl:Addr) (gz:List FZ) (z0:FZ) (h:HS) (ve:V) (most:Int) (qa:Addr) (bs:List Bool) (n k:Nat) (H0:Hp) (W:Nat->List Int->HS->Prop) (μ:Nat->Nat) (M:Nat) (e1:x=.ref pp) (pg:PgAt (qa::ownA ps sf sn sl (gz++[z0])) H P pp) (e2:y=.ref q) (la:LaneAt H0 sts q ys) (s0:Same H0 H) (n0:∀ x∈qa::ownA ps sf sn sl (gz++[z0]),H0 x=none)
   (e3:z=.ref ps) (sa:SA ps sf sn sl (gz++[z0]) H h ve) (e4:u=.int most) (e5:v=.ref qa) (hqa:H qa=some (.lst ((bs.drop n).map V.bl))) (nqa:qa∉ownA ps sf sn sl (gz++[z0])) (e6:t=.int k) (G:LGood P sts most W μ M) (w0:W k z0.2.2.2 h) (ng:∀ st∈sts,NoGT st.deed) (hb:bs.length<=1000) (hfl:h.frames.length<=20)
   (kk:∀ h' why k' n' gz' lg vs H',LRun P sts most bs h k z0.2.2.2 n h' why k' n'->SA ps sf sn sl gz' H' h' ve->H' qa=some (.lst ((bs.drop n').map V.bl))->qa∉ownA ps sf sn sl gz'->OSame (qa::ownA ps sf sn sl (gz++[z0])) H H'->(∀ x∈ownA ps sf sn sl gz',x∈ownA ps sf sn sl (gz++[z0])\/H x=none)->H' lg=some (.lst vs)->Reps H' [logD (Str.ofString "over",k,h.gone),logD (why,k',h'.gone)] vs->Q (.ref lg) H'):Pr_inlane x y z u v t H Q
def Zgl:Sp:=sp6 Pr_inlane
theorem sc__law_in_lane:FnScope ["program","lane","state","most","answers","k","log","words","why","f","at","forms"] ["program","lane","state","most","answers","k"] (Zan Zb7):=by walk_at"fs"
theorem Zfm (B:Blt mg) (T__law_in_lane:TopFn K mg "_law_in_lane" Zb7 ["program","lane","state","most","answers","k"]) (ZbU:Callee P w K mg base "_law_under" 1 ["form","words"] (Zbe K)) (ZeD:Callee P w K mg base "_law_done" 2 ["program","lane","state","most","words","k"] Zi8):Callee P w K mg base "_law_in_lane" 3 ["program","lane","state","most","answers","k"] Zgl:=by
 refine T__law_in_lane.ok6 sc__law_in_lane fun f cdv A outer s H v1 v2 v3 v4 v5 v6 Q E hr hh=>?_
 have nd:=sc__law_in_lane.nd
 have hu:=hr.units
 obtain ⟨Pg,pp,q,ys,sts,ps,sf,sn,sl,gz,z0,h,ve,most,qa,bs,n,k,H0,W,μ,M,rfl,pg,rfl,la,s0,n0,rfl,sa,rfl,rfl,hqa,nqa,rfl,G,w0,ng,hb,hfl,kk⟩:=hh
 refine' ZaB [some (.ref pp),some (.ref q),some (.ref ps),some (.int most),some (.ref qa),some (.int k),none,none,none,none,none,none] rfl ?hb ?hg
 case hb=>exact (Zaf (ZcM (i:=6) nd rfl (Or.inl rfl) (ZaH (Zam (Zap (Zab Zat (Zac (pv 5) (Zav (Zai (k_ix (K:=K) rfl) (pv 2) Zaa (fun _ _=>rfl)) Zad)))) Zad))) (Zaf (Zbd (i:=7) nd rfl (Or.inr rfl) (Zai (k_ix (K:=K) rfl) (Zmv (K:=K) rfl PySem.F.plainAttrs_list PySem.F.slot_list_pop PySem.F.type_list_pop ZjD (Zai (k_ix (K:=K) rfl) (pv 2) Zaa (fun _ _=>rfl))) Zaa (fun _ _=>rfl))) (Zaf (ZcS (i:=8) nd rfl (Or.inl rfl) Zcr) (Zaf (Zeh PassesOwn.never (Zar Zeu (pv 8) Zcr (Zau _)) (Zal (ZaZ (PW.pt (Zbk (Zar (k_neE (K:=K) rfl hu) (pv 4) (ZaH Zad) (Zau _)) (Zba (ZdK (k_bm (K:=K) rfl PySem.F.plainAttrs_list PySem.F.slot_list_pop PySem.F.type_list_pop ZdF (pv 4) (Zab Zaa Zad)))))) (Zal (ZcS (i:=8) nd rfl (Or.inl rfl) Zat)) (Zal (Za3 (ZaS ZeD hr.m (by rfl) (Zac (pv 0) (Zac (pv 1) (Zac (pv 2) (Zac (pv 3) (Zac (pv 7) (Zac (pv 5) Zad))))))) (ZbQ (K:=K) (n:=3) rfl rfl (ZaF (ZaA (i:=8) nd rfl (Or.inl rfl)) (ZaF (ZaA (i:=5) nd rfl (Or.inl rfl)) (ZaF (ZaA (i:=7) nd rfl (Or.inr rfl)) Zb5))))))))) (Zaf (Zh4 PassesOwn.never rfl (Zdq (K:=K) rfl (Zai (k_ix (K:=K) rfl) (Zai (k_ix (K:=K) rfl) (pv 1) (pv 5) (fun _ _=>rfl)) Zaa (fun _ _=>rfl))) (ZbQ (K:=K) (n:=3) rfl rfl (ZaF (ZaA (i:=9) nd rfl (Or.inl rfl)) (ZaF (ZaA (i:=10) nd rfl (Or.inl rfl)) (ZaF (ZaA (i:=11) nd rfl (Or.inl rfl)) Zb5)))) (Zal (Zbm (k_bm (K:=K) rfl PySem.F.plainAttrs_list PySem.F.slot_list_append PySem.F.type_list_append ZbN (Zai (k_ix (K:=K) rfl) (pv 2) Zaa (fun _ _=>rfl)) (Zbs (ZaH (Zac (pv 9) (Zac (pv 10) (ZcH (Zb1 (LN:=["form"]) (FN:=["words"]) (fr:=[7]) rfl (Zd0 (by rfl)) (ZcI (K:=K) rfl (pv 11)) (fun cl C fp pins s H=>(ZaA (i:=0) (show ((["form"]:List Str)++(["words"]:List Str)).Nodup by decide +kernel) rfl (Or.inl rfl))) (fun cl C fp pins s H=>ZbR) (fun cl C fp pins s H=>(ZaS ZbU hr.m (by rfl) (Zac (pv 0) (Zac (pv 1) Zad))))) Zad)))) Zad))))) (Zal (Zay (ZaN Zek (pv 6) (ZaH (Zam (Zap (Zac (pv 8) (Zac (pv 5) (Zav (Zai (k_ix (K:=K) rfl) (pv 2) Zaa (fun _ _=>rfl)) Zad)))) Zad))))))))))
 walk_at"rdx"
 refine Zak (v:=.int h.gone) sa.obj rfl ?_
 walk_at"rdx"
 walk_at"mk";intro T hT
 have s1:=Same.new (o:=.tup [V.str (Str.ofString "over"),V.int k,V.int h.gone]) hT
 have r1:Rep (upd H T (.tup [V.str (Str.ofString "over"),V.int k,V.int h.gone])) (logD (Str.ofString "over",k,h.gone)) (.ref T):=ZbA Zag (Zas (by rw[Rep]) (Zas ZaR (Zas ZaR ZaM)))
 generalize upd H T (.tup [V.str (Str.ofString "over"),V.int k,V.int h.gone])=H1 at s1 r1
 walk_at"rdx"
 walk_at"mk";intro lg hlg
 have s2':=Same.new (o:=.lst [V.ref T]) hlg
 have l2:upd H1 lg (.lst [V.ref T]) lg=some (.lst [V.ref T]):=Zag
 have s2:=s1.trans s2'
 have r2:=r1.mono s2'.ts
 have nlg:H lg=none:=s1.free hlg
 generalize upd H1 lg (.lst [V.ref T])=H2 at s2 s2' l2 r2
 have sa2:=sa.mono s2
 have hnd:=sa.nd
 rw[Zbi] at hnd
 obtain ⟨_,_,hdis⟩:=nodup_append.mp hnd
 have zf:z0.1.1≠sf:=fun e=>hdis sf (by simp[ownA]) z0.1.1 (by simp) e.symm
 have zf2:z0.1.2≠sf:=fun e=>hdis sf (by simp[ownA]) z0.1.2 (by simp) e.symm
 have hz1:=sa2.z1 (z:=z0) (by simp)
 have hz2:=sa2.z2 (z:=z0) (by simp)
 have hpop:((gz++[z0]).map fun z=>V.ref z.1.1).dropLast=gz.map fun z=>V.ref z.1.1:=by rw[map_append];exact dropLast_concat
 walk_at"rdx"
 refine Zak (v:=.ref sf) sa2.obj rfl ?_
 refine ⟨.inl ⟨rfl,_,SqL.of sa2.fl⟩,?_⟩
 refine ⟨sf,_,V.ref z0.1.1,rfl,rfl,sa2.fl,by simp,?_⟩
 rw[hpop]
 obtain ⟨a3,o3⟩:=sa2.pop
 have hfr:gz.map (·.2)=h.frames.dropLast:=by
  have:=sa.fr
  rw[map_append] at this
  rw[<-this]
  exact dropLast_concat.symm
 rw[hfr] at a3
 have l3:upd H2 sf (.lst (gz.map fun z=>V.ref z.1.1)) z0.1.1=some (.lst [.int z0.2.1,.int z0.2.2.1,.ref z0.1.2]):=by rw[Zax zf];exact hz1
 have w3:upd H2 sf (.lst (gz.map fun z=>V.ref z.1.1)) z0.1.2=some (.lst (z0.2.2.2.map V.int)):=by rw[Zax zf2];exact hz2
 have own_le:∀ x∈ownA ps sf sn sl gz,x∈ownA ps sf sn sl (gz++[z0]):=fun x hx=>by rw[Zbi];exact mem_append_left _ hx
 have O3:OSame (qa::ownA ps sf sn sl (gz++[z0])) H2 (upd H2 sf (.lst (gz.map fun z=>V.ref z.1.1))):=fun b o nb eb=>o3 b o (fun m=>nb (mem_cons_of_mem _ m)) eb
 have qa3:upd H2 sf (.lst (gz.map fun z=>V.ref z.1.1)) qa=some (.lst ((bs.drop n).map V.bl)):=o3 _ _ nqa (s2 _ _ hqa)
 have S3:Same H0 (upd H2 sf (.lst (gz.map fun z=>V.ref z.1.1))):=fun b o eb=>O3 b o (fun m=>by rw[n0 b m] at eb;cases eb) (s2 _ _ (s0 _ _ eb))
 have pg2:=pg.by (OSame.of s2) s2.ts (own':=qa::ownA ps sf sn sl (gz++[z0])) (fun x hx=>.inl hx)
 have nt2:ZeA (qa::ownA ps sf sn sl (gz++[z0])) H2:=fun b hb xs e=>by
  rcases mem_cons.mp hb with rfl|hb
  ·rw[s2 _ _ hqa] at e;cases e
  ·exact sa2.notup b hb xs e
 have pg3:=pg2.by O3 (O3.ts nt2) (own':=qa::ownA ps sf sn sl gz) (fun x hx=>by
  rcases mem_cons.mp hx with rfl|hx
  ·exact .inl mem_cons_self
  ·exact .inl (mem_cons_of_mem _ (own_le x hx)))
 have nz2:z0.1.2∉qa::ownA ps sf sn sl gz:=fun m=>by
  rcases mem_cons.mp m with e|m
  ·exact nqa (by rw[<-e,Zbi];simp)
  ·exact hdis _ m z0.1.2 (by simp) rfl
 have nlgo:lg∉qa::ownA ps sf sn sl (gz++[z0]):=fun m=>by
  rcases mem_cons.mp m with e|m
  ·rw[e,hqa] at nlg;cases nlg
  ·rw[<-Zbg (h:=h) (ve:=ve)] at m
   obtain ⟨ob,hob,rfl⟩:=mem_map.mp m
   rw[sa.all _ hob] at nlg
   cases nlg
 generalize upd H2 sf (.lst (gz.map fun z=>V.ref z.1.1))=H3 at a3 o3 l3 w3 O3 qa3 S3 pg3
 walk_at"rdx"
 refine Zak (v:=.ref z0.1.2) l3 rfl ?_
 walk_at"rdx"
 refine ⟨(fun m σ Hx=>∃ k1 ws qw n1 hc v8 c9 c10 c11,σ=[some (.ref pp),some (.ref q),some (.ref ps),some (.int most),some (.ref qa),some (.int ((k1:Nat):Int)),some (.ref lg),some (.ref qw),some v8,c9,c10,c11]/\SA ps sf sn sl gz Hx { hc with frames:=h.frames.dropLast } ve/\hc.frames=h.frames/\PgAt (qa::ownA ps sf sn sl gz) Hx Pg pp/\Hx qa=some (.lst ((bs.drop n1).map V.bl))/\Hx qw=some (.lst (ws.map V.int))/\qw∉qa::ownA ps sf sn sl gz/\Same H0 Hx/\OSame (qa::ownA ps sf sn sl (gz++[z0])) H2 Hx/\((m=(most - hc.gone).toNat * (M+1)+μ k1+1/\v8=.non/\W k1 ws hc/\∀ h' why k' n',LRun Pg sts most bs hc k1 ws n1 h' why k' n'->LRun Pg sts most bs h k z0.2.2.2 n h' why k' n')\/(m=0/\∃ y st',v8=.str y/\sts[k1]?=some st'/\SOk Pg st' ws/\LRun Pg sts most bs h k z0.2.2.2 n (ledH hc st' ws) y k1 n1))),⟨_,k,z0.2.2.2,z0.1.2,n,h,.non,none,none,none,rfl,a3,rfl,pg3,qa3,w3,nz2,S3,O3,.inl ⟨rfl,rfl,w0,fun _ _ _ _ r=>r⟩⟩,?_⟩
 rintro m σ Hx ⟨k1,ws,qw,n1,hc,v8,c9,c10,c11,rfl,ax,hcf,pgx,qax,hqx,nqx,sx,ox,alt⟩
 rcases alt with ⟨rfl,rfl,wk,back⟩|⟨rfl,y,st',rfl,est',ok',lrun⟩
 ·obtain ⟨st,est,ok,hnews,hstep⟩:=G.st k1 ws hc wk
  walk_at"rdx"
  refine ZaJ rfl ?_
  refine ZcQ fun N hN=>?_
  have hlen:((bs.drop n1).map V.bl).length<=1000:=by rw[length_map,length_drop];lia
  refine Zmy (fun H5=>SA ps sf sn sl gz H5 { hc with frames:=h.frames.dropLast } ve/\PgAt (qa::ownA ps sf sn sl gz) H5 Pg pp/\H5 qa=some (.lst ((bs.drop (n1+1)).map V.bl))/\H5 qw=some (.lst (ws.map V.int))/\Same H0 H5/\OSame (qa::ownA ps sf sn sl (gz++[z0])) H2 H5/\bs.getD n1 false=false) ?_ fun U hU=>?_
  ·rintro H5 ⟨a5,pg5,qa5,qw5,s5,o5,hb5⟩
   have ngs:=ng st (mem_of_getElem? est)
   have we:=wsA_ng (h:=hc) (ws:=ws) ngs
   rw[we] at hstep
   have nqg:qa∉ownA ps sf sn sl gz:=fun m=>nqa (own_le _ m)
   walk_at"rdx"
   refine use6 ⟨Pg,pp,q,ys,sts,ps,sf,sn,sl,gz,{ hc with frames:=h.frames.dropLast },ve,most,qw,ws,k1,st,H0,rfl,pg5.by (OSame.of (Same.refl _)) (Same.refl _).ts (fun x hx=>.inl (mem_cons_of_mem _ hx)),rfl,la,s5,fun x hx=>n0 x (mem_cons_of_mem _ (own_le x hx)),rfl,a5,rfl,rfl,qw5,fun z=>nqx (mem_cons_of_mem _ z),rfl,est,ok,ngs,hnews,fun e he hy=>(hstep e he hy).1,fun why T H' hwy s' hT=>?_,fun e T q' H' he hy hT hq' nq' nq0 sa' os'=>?_⟩
   ·refine Zb4 hT rfl ?_
    walk_at"rdx"
    refine hN _ _ ⟨0,by lia,k1,ws,qw,n1+1,hc,_,c9,c10,c11,rfl,a5.mono s',hcf,pg5.by (OSame.of s') s'.ts (fun x hx=>.inl hx),s' _ _ qa5,s' _ _ qw5,nqx,s5.trans s',fun b o nb eb=>s' _ _ (o5 b o nb eb),.inr ⟨rfl,why,st,rfl,est,ok,back _ _ _ _ (.left est hb5 hwy)⟩⟩
   ·obtain ⟨eok,wso,wk',dec⟩:=hstep e he hy
    have hk0:=eok.k
    have hgm:hc.gone+ZbK st.deed e<=most:=by
     have hy':whyA most hc st ws (Za1 Pg st ws)=none:=by rw[he];exact hy
     obtain ⟨e2,he2,hg,_⟩:=ZfC hy'
     rw[he] at he2
     cases he2
     exact hg
    have O':OSame (qa::ownA ps sf sn sl gz) H5 H':=fun b o nb eb=>os' b o (fun m=>nb (mem_cons_of_mem _ m)) eb
    have nqq:q'≠qa:=fun z=>by rw[z,qa5] at nq0;cases nq0
    refine Zb4 hT rfl ?_
    walk_at"rdx"
    refine hN _ _ ⟨_,msr hgm (G.le e.k.toNat) dec,e.k.toNat,e.moves.map (wF ws),q',n1+1,hA Pg hc st ws e,.non,c9,c10,c11,by rw[Int.toNat_of_nonneg hk0];rfl,sa',hcf,pg5.by O' (os'.ts a5.notup) (fun x hx=>.inl hx),os' _ _ nqg qa5,hq',fun m=>(mem_cons.mp m).elim nqq nq',fun b o eb=>os' b o (fun m=>by rw[n0 b (mem_cons_of_mem _ (own_le b m))] at eb;cases eb) (s5 _ _ eb),fun b o nb eb=>os' b o (fun m=>nb (mem_cons_of_mem _ (own_le b m))) (o5 b o nb eb),.inl ⟨rfl,rfl,wk',fun h' why k' n' r=>back _ _ _ _ (.on est hb5 he (by rw[he];exact hy) (by rw[we];exact r))⟩⟩
  ·walk_at"rdx"
   walk_at"mk";intro qe hqe
   have s4:=Same.new (o:=.lst []) hqe
   refine Zlq (s4 _ _ qax) Zag ?_
   have a4:=ax.mono s4
   have pg4:=pgx.by (OSame.of s4) s4.ts (own':=qa::ownA ps sf sn sl gz) (fun x hx=>.inl hx)
   have qa4:=s4 _ _ qax
   have qw4:=s4 _ _ hqx
   have sx4:=sx.trans s4
   have ox4:OSame (qa::ownA ps sf sn sl (gz++[z0])) H2 (upd Hx qe (.lst [])):=fun b o nb eb=>s4 _ _ (ox b o nb eb)
   generalize upd Hx qe (.lst [])=H4 at s4 a4 pg4 qa4 qw4 sx4 ox4
   refine ⟨_,rfl,?_⟩
   cases hans:bs.drop n1 with
   | nil =>
    refine Ze8 (by rfl) ?_
    refine iteF ?_
    have hn1:bs.length<=n1:=drop_eq_nil_iff.mp hans
    refine hU _ ⟨a4,pg4,?_,qw4,sx4,ox4,?_⟩
    ·rw[qa4,hans,drop_eq_nil_iff.mpr (by lia)]
    ·rw[getD_eq_getElem?_getD,getElem?_eq_none hn1];rfl
   | cons b r =>
    rw[hans] at qa4
    have hbn:bs.getD n1 false=b:=by
     have:(bs.drop n1)[0]?=some b:=by rw[hans];rfl
     rw[getElem?_drop,Nat.add_zero] at this
     rw[getD_eq_getElem?_getD,this];rfl
    have hdr:bs.drop (n1+1)=r:=by
     rw[<-drop_drop,hans];rfl
    refine Zew rfl ?_
    walk_at"rdx"
    refine ⟨.inl ⟨rfl,_,SqL.of qa4⟩,?_⟩
    walk_at"rdx"
    refine ⟨qa,_,0,0,V.bl b,rfl,rfl,qa4,by decide,by decide,?_,rfl,?_⟩
    ·unfold PySem.seqIndex?
     simp
    rw[show (List.map V.bl (b::r)).eraseIdx 0=r.map V.bl from rfl]
    have oq:OSame [qa] H4 (upd H4 qa (.lst (r.map V.bl))):=OSame.wr mem_cons_self
    have ntq:ZeA [qa] H4:=fun x hx xs e=>by rw[mem_singleton.mp hx,qa4] at e;cases e
    have nqg:qa∉ownA ps sf sn sl gz:=fun m=>nqa (own_le _ m)
    have a5:=a4.by oq ntq (fun x hx e=>nqg (by rw[<-mem_singleton.mp e];exact hx))
    have O5:OSame (qa::ownA ps sf sn sl gz) H4 (upd H4 qa (.lst (r.map V.bl))):=fun x o nx ex=>oq x o (fun e=>nx (by rw[mem_singleton.mp e];exact mem_cons_self)) ex
    have pg5:=pg4.by O5 (oq.ts ntq) (own':=qa::ownA ps sf sn sl gz) (fun x hx=>.inl hx)
    have qw5:upd H4 qa (.lst (r.map V.bl)) qw=some (.lst (ws.map V.int)):=oq _ _ (fun e=>nqx (by rw[mem_singleton.mp e];exact mem_cons_self)) qw4
    have sx5:Same H0 (upd H4 qa (.lst (r.map V.bl))):=fun x o ex=>oq x o (fun e=>by rw[mem_singleton.mp e,n0 qa mem_cons_self] at ex;cases ex) (sx4 _ _ ex)
    have ox5:OSame (qa::ownA ps sf sn sl (gz++[z0])) H2 (upd H4 qa (.lst (r.map V.bl))):=fun x o nx ex=>oq x o (fun e=>nx (by rw[mem_singleton.mp e];exact mem_cons_self)) (ox4 x o nx ex)
    have qa5:upd H4 qa (.lst (r.map V.bl)) qa=some (.lst ((bs.drop (n1+1)).map V.bl)):=by rw[Zag,hdr]
    generalize upd H4 qa (.lst (r.map V.bl))=H5 at a5 pg5 qw5 sx5 ox5 qa5
    refine ⟨b,rfl,?_⟩
    cases b with
    | true =>
     refine iteT ?_
     walk_at"rdx"
     refine hN _ _ ⟨0,by lia,k1,ws,qw,n1+1,hc,_,c9,c10,c11,rfl,a5,hcf,pg5,qa5,qw5,nqx,sx5,ox5,.inr ⟨rfl,_,st,rfl,est,ok,back _ _ _ _ (.called est hbn)⟩⟩
    | false =>
     refine iteF ?_
     exact hU _ ⟨a5,pg5,qa5,qw5,sx5,ox5,hbn⟩
 ·obtain ⟨x,hx,sv0⟩:=la.get est'
  have sv:=sv0.mono sx
  obtain ⟨t,l,td,ysP,xsD,rfl,ht,hl,hd,rp,rx⟩:=Zdi sv
  have hl0:H0 l≠none:=fun z=>by
   obtain ⟨t0,l0,ys0,vd0,e0,g1,g2,_⟩:=sv0
   cases e0
   rw[sx _ _ g1] at ht
   cases ht
   rw[z] at g2
   cases g2
  have hpl:=rp.length
  rw[length_map] at hpl
  have hfew:=ok'.few
  walk_at"rdx"
  refine Zao (fun z=>by cases z) ?_
  walk_at"rdx"
  refine Zak (v:=.ref t) (sx _ _ la.lst) (Zaw (n:=k1) rfl hx) ?_
  walk_at"rdx"
  refine Zaq (v:=.ref l) ht rfl ?_
  walk_at"rdx"
  refine ZgI (SqL.of hl) ?_
  refine Zik (xs:=ysP) (fun i σ Hy=>∃ gz' c9 c10 c11,σ=[some (.ref pp),some (.ref q),some (.ref ps),some (.int most),some (.ref qa),some (.int ((k1:Nat):Int)),some (.ref lg),some (.ref qw),some (.str y),c9,c10,c11]/\SA ps sf sn sl (gz++gz') Hy { hc with frames:=h.frames.dropLast++(st'.paper.take i).map (wSF ws) } ve/\(∀ x∈ownA ps sf sn sl (gz++gz'),x∈ownA ps sf sn sl gz\/Hx x=none)/\OSame (ownA ps sf sn sl gz) Hx Hy) ⟨[],c9,c10,c11,rfl,by rw[append_nil];simpa using ax,fun x hx=>.inl (by rw[append_nil] at hx;exact hx),OSame.of (Same.refl _)⟩ ?_ ?_ ?_
  ·rintro i σ Hy _ ⟨gz',c9,c10,c11,_,_,_,oy⟩
   exact SqL.of (oy _ _ (fun m=>hl0 (n0 l (mem_cons_of_mem _ (own_le l m)))) hl)
  ·rintro i x σ Hy hxi ⟨gz',c9,c10,c11,rfl,ay,own',oy⟩
   have tsy:=oy.ts ax.notup
   have nqy:qw∉ownA ps sf sn sl gz:=fun z=>nqx (mem_cons_of_mem _ z)
   have hqy:=oy _ _ nqy hqx
   obtain ⟨sfr,t2,u,xs,es,rfl,ht2,hu2,rx2⟩:=Zgu (rp.mono tsy) hxi
   have okf:=ok'.fms sfr (mem_of_getElem? es)
   have hxl:=rx2.length
   rw[length_map] at hxl
   have okl:=okf.1
   refine Zb4 ht2 rfl ?_
   walk_at"rdx"
   refine Zak (v:=.ref sf) ay.obj rfl ?_
   refine ⟨.inl ⟨rfl,_,SqL.of ay.fl⟩,?_⟩
   walk_at"rdx"
   refine ⟨u,rfl,⟨_,SqT.of hu2⟩,?_⟩
   refine ZeI (xs:=xs) (Za2 (by lia)) (fun j zs σ Hz=>An3 (∃ x1,σ=[x1,some (.ref qw)]) (zs=((sfr.2.2.take j).map (wF ws)).map V.int) (Same Hy Hz)) ⟨⟨none,rfl⟩,rfl,Same.refl _⟩ (fun j zs σ Hz _ z_=>by obtain ⟨_,_,sz⟩:=z_;exact SqT.of (sz _ _ hu2)) ?_ ?_
   ·rintro j x zs σ Hz hx' hle' hlt' ⟨⟨x1,rfl⟩,rfl,sz⟩
    obtain ⟨d,ed,rd⟩:=rx2.get' hx'
    rw[getElem?_map] at ed
    obtain ⟨fm,ef,rfl⟩:=Option.map_eq_some_iff.mp ed
    have okm:=okf.2 fm (mem_of_getElem? ef)
    walk_at"rdx"
    refine use2 ⟨fm.1,fm.2,qw,ws,rd.mono sz.ts,rfl,SqL.of (sz _ _ hqy),Nat.le_trans okm.l (by decide),fun p hp=>⟨(okm.p p hp).2.1,(okm.p p hp).2.2,Zce (okm.p p hp).1⟩,fun z hz=>Zce (ok'.wo.2 z hz),fun H3 s3=>?_⟩
    refine ⟨hlt',by simp;lia,⟨_,rfl⟩,?_,sz.trans s3⟩
    rw[take_add_one,ef]
    simp[wF]
   ·rintro zs σ Hz hzl ⟨⟨x1,rfl⟩,rfl,sz⟩ pb hpb
    rw[<-hxl,take_length]
    have s5:=Same.new (o:=.lst ((sfr.2.2.map (wF ws)).map V.int)) hpb
    have e5:upd Hz pb (.lst ((sfr.2.2.map (wF ws)).map V.int)) pb=some (.lst ((sfr.2.2.map (wF ws)).map V.int)):=Zag
    generalize upd Hz pb (.lst ((sfr.2.2.map (wF ws)).map V.int))=H5 at s5 e5
    walk_at"rdx"
    walk_at"mk";intro pf hpf
    have s6:=Same.new (o:=.lst [.int sfr.1,.int sfr.2.1,.ref pb]) hpf
    have e6:upd H5 pf (.lst [.int sfr.1,.int sfr.2.1,.ref pb]) pf=some (.lst [.int sfr.1,.int sfr.2.1,.ref pb]):=Zag
    generalize upd H5 pf (.lst [.int sfr.1,.int sfr.2.1,.ref pb])=H6 at s6 e6
    have sy6:=(sz.trans s5).trans s6
    have ay6:=ay.mono sy6
    have live:∀ {b:Addr},b∈ownA ps sf sn sl (gz++gz')->Hy b≠none:=fun {b} m z=>by
     rw[<-Zbg (h:={ hc with frames:=h.frames.dropLast++(st'.paper.take i).map (wSF ws) }) (ve:=ve)] at m
     obtain ⟨ob,hob,rfl⟩:=mem_map.mp m
     rw[ay.all _ hob] at z
     cases z
    have pby:Hy pb=none:=sz.free hpb
    have pfy:Hy pf=none:=(sz.trans s5).free hpf
    have nef:pf≠pb:=fun z=>by rw[z,e5] at hpf;cases hpf
    walk_at"rdx"
    refine ZbM ay6.fl (Zgs (by
     have e:=congrArg List.length (show (gz++gz').map (·.2)=h.frames.dropLast++(st'.paper.take i).map (wSF ws) from ay.fr)
     rw[length_map,length_append,length_append,length_map,length_take,length_dropLast] at e
     rw[length_map,length_append]
     lia)) ?_
    obtain ⟨a7,o7⟩:=ay6.push (f:=wSF ws sfr) e6 (s6 _ _ e5) (fun m=>live m pfy) (fun m=>live m pby) nef
    refine ⟨gz'++[((pf,pb),wSF ws sfr)],_,_,_,rfl,?_,?_,?_⟩
    ·have efr:h.frames.dropLast++(st'.paper.take (i+1)).map (wSF ws)=(h.frames.dropLast++(st'.paper.take i).map (wSF ws))++[wSF ws sfr]:=by
      rw[take_add_one,es]
      simp
     have eg:gz++(gz'++[((pf,pb),wSF ws sfr)])=gz++gz'++[((pf,pb),wSF ws sfr)]:=(append_assoc ..).symm
     rw[efr,eg]
     exact a7
    ·have dead:∀ {b:Addr},Hy b=none->Hx b=none:=fun {b} hb=>by
      cases hz:Hx b with
      | none=>rfl
      | some o =>
       by_cases m:b∈ownA ps sf sn sl gz
       ·exact absurd hb (live (by
         have:∀ l:List FZ,b∈ownA ps sf sn sl (gz++l):=fun l=>by
          unfold ownA at m ⊢
          rw[flatMap_append,<- append_assoc]
          exact mem_append_left _ m
         exact this gz'))
       ·rw[oy b o m hz] at hb;cases hb
     intro x hx
     rw[<-append_assoc,Zbi] at hx
     rcases mem_append.mp hx with hx|hx
     ·exact own' x hx
     ·simp only[mem_cons,not_mem_nil,or_false] at hx
      rcases hx with rfl|rfl
      ·exact .inr (dead pfy)
      ·exact .inr (dead pby)
    ·exact fun b o nb eb=>o7 b o (fun m=>(own' b m).elim nb (fun z=>by rw[z] at eb;cases eb)) (sy6 _ _ (oy b o nb eb))
  ·rintro σ Hy ⟨gz',c9,c10,c11,rfl,ay,own',oy⟩
   rw[<-hpl,take_length] at ay
   have eled:ledH hc st' ws={ hc with frames:=h.frames.dropLast++st'.paper.map (wSF ws) }:=by
    unfold ledH
    rw[hcf]
   rw[<-eled] at ay
   have nlx:lg∉ownA ps sf sn sl gz:=fun m=>nlgo (mem_cons_of_mem _ (own_le _ m))
   have llx:=oy _ _ nlx (ox _ _ nlgo l2)
   have ts2y:TSame H2 Hy:=fun b xs eb=>oy.ts ax.notup _ _ (ox.ts nt2 _ _ eb)
   have r2y:=r2.mono ts2y
   have nqg:qa∉ownA ps sf sn sl gz:=fun m=>nqa (own_le _ m)
   have qay:=oy _ _ nqg qax
   walk_at"rdx"
   refine Zak (v:=.int (ledH hc st' ws).gone) ay.obj rfl ?_
   walk_at"rdx"
   walk_at"mk";intro T2 hT2
   have s7:=Same.new (o:=.tup [V.str y,V.int k1,V.int (ledH hc st' ws).gone]) hT2
   have r7:Rep (upd Hy T2 (.tup [V.str y,V.int k1,V.int (ledH hc st' ws).gone])) (logD (y,k1,(ledH hc st' ws).gone)) (.ref T2):=ZbA Zag (Zas (by rw[Rep]) (Zas ZaR (Zas ZaR ZaM)))
   generalize upd Hy T2 (.tup [V.str y,V.int k1,V.int (ledH hc st' ws).gone])=H7 at s7 r7
   walk_at"rdx"
   walk_at"mk";intro p8 hp8
   have s8:=Same.new (o:=.lst [V.ref T2]) hp8
   have e8:upd H7 p8 (.lst [V.ref T2]) p8=some (.lst [V.ref T2]):=Zag
   have r8:=r7.mono s8.ts
   generalize upd H7 p8 (.lst [V.ref T2])=H8 at s8 e8 r8
   have s78:=s7.trans s8
   refine ZeE (s78 _ _ llx) e8 (Za2 (Nat.le_of_ble_eq_true rfl)) fun p9 hp9=>?_
   have s9:=Same.new (o:=.lst ([V.ref T]++[V.ref T2])) hp9
   have s79:=s78.trans s9
   have np9:Hy p9=none:=s78.free hp9
   have OF:OSame (qa::ownA ps sf sn sl (gz++[z0])) H Hy:=fun b o nb eb=>oy b o (fun m=>nb (mem_cons_of_mem _ (own_le b m))) (ox b o nb (s2 _ _ eb))
   refine kk (ledH hc st' ws) y k1 n1 (gz++gz') p9 _ _ lrun (ay.mono s79) (s79 _ _ qay) ?_ (fun b o nb eb=>s79 _ _ (OF b o nb eb)) ?_ Zag (Zas (r2y.mono s79.ts) (Zas (r8.mono s9.ts) ZaM))
   ·intro m
    rcases own' qa m with m|m
    ·exact nqg m
    ·rw[qax] at m;cases m
   ·intro x hx
    rcases own' x hx with m|m
    ·exact .inl (own_le x m)
    ·by_cases m2:x∈ownA ps sf sn sl (gz++[z0])
     ·exact .inl m2
     ·right
      cases hz:H x with
      | none=>rfl
      | some o =>
       by_cases mq:x=qa
       ·rw[mq,qax] at m;cases m
       ·rw[ox x o (fun z=>(mem_cons.mp z).elim mq m2) (s2 _ _ hz)] at m
        cases m
end
end My
end
section
namespace My
open PySem L2
section
variable {P:Program} {w:World} {K:W.Frag} {mg:Str->Option Value} {base:Heap}
variable {C CC:Addr}
structure RJ (P:List Df) (sts:List Std) (bs:List Bool) (H:Hp) (ps sf sn sl qa d lg:Addr) (Hx:Hp) (h:HS) (l:List LogE) (n:Nat) (gz:List FZ) (ve:V) (vs:List V):Prop where
 a:SA ps sf sn sl gz Hx h ve
 q:Hx qa=some (.lst ((bs.drop n).map V.bl))
 nq:qa∉ownA ps sf sn sl gz
 dr:DrAt Hx P sts d
 nd:d∉qa::ownA ps sf sn sl gz
 lst:Hx lg=some (.lst vs)
 rp:Reps Hx (l.map logD) vs
 nl:lg∉qa::ownA ps sf sn sl gz
 sm:Same H Hx
 fr:∀ x∈qa::ownA ps sf sn sl gz,H x=none
 few:l.length<=2 * n
section
variable {P:List Df} {sts:List Std} {bs:List Bool} {H:Hp} {ps sf sn sl qa d lg:Addr} {Hx H':Hp} {h h':HS} {l:List LogE} {n n':Nat} {gz gz':List FZ} {ve ve':V} {vs:List V}
theorem RJ.mono (r:RJ P sts bs H ps sf sn sl qa d lg Hx h l n gz ve vs) (s:Same Hx H'):RJ P sts bs H ps sf sn sl qa d lg H' h l n gz ve vs :=
 ⟨r.a.mono s,s _ _ r.q,r.nq,r.dr.of fun o e=>s _ _ e,r.nd,s _ _ r.lst,r.rp.mono s.ts,r.nl,r.sm.trans s,r.fr,r.few⟩
theorem RJ.nt (r:RJ P sts bs H ps sf sn sl qa d lg Hx h l n gz ve vs):ZeA (qa::ownA ps sf sn sl gz) Hx:=fun b hb xs e=>by
 rcases mem_cons.mp hb with rfl|hb
 ·rw[r.q] at e;cases e
 ·exact r.a.notup b hb xs e
theorem RJ.goes (r:RJ P sts bs H ps sf sn sl qa d lg Hx h l n gz ve vs) (a:SA ps sf sn sl gz' H' h' ve') (q:H' qa=some (.lst ((bs.drop n').map V.bl))) (nq:qa∉ownA ps sf sn sl gz') (few:l.length<=2 * n') (o:OSame (qa::ownA ps sf sn sl gz) Hx H') (nw:∀ x∈ownA ps sf sn sl gz',x∈ownA ps sf sn sl gz\/Hx x=none):RJ P sts bs H ps sf sn sl qa d lg H' h' l n' gz' ve' vs:=by
 have ts:=o.ts r.nt
 have out:∀ {x:Addr},x∉qa::ownA ps sf sn sl gz->Hx x≠none->x∉qa::ownA ps sf sn sl gz':=fun {x} nx hx m=>by
  rcases mem_cons.mp m with e|m
  ·exact nx (by rw[e];exact mem_cons_self)
  ·rcases nw x m with z|z
   ·exact nx (mem_cons_of_mem _ z)
   ·exact hx z
 refine ⟨a,q,nq,r.dr.of fun u e=>o _ _ r.nd e,?_,o _ _ r.nl r.lst,r.rp.mono ts,out r.nl (by rw[r.lst];exact fun z=>by cases z),fun b u e=>o b u (fun z=>by rw[r.fr b z] at e;cases e) (r.sm _ _ e),fun x hx=>?_,few⟩
 ·obtain ⟨kvs,hk,_⟩:=r.dr
  exact out r.nd (by rw[hk];exact fun z=>by cases z)
 ·rcases mem_cons.mp hx with e|hx
  ·rw[e];exact r.fr qa mem_cons_self
  ·rcases nw x hx with z|z
   ·exact r.fr x (mem_cons_of_mem _ z)
   ·exact r.sm.free z
theorem RJ.pg {pp:Addr} (r:RJ P sts bs H ps sf sn sl qa d lg Hx h l n gz ve vs) (p:PgAt [] H P pp):PgAt (qa::ownA ps sf sn sl gz) Hx P pp:=p.by (OSame.of r.sm) r.sm.ts fun x hx=>.inr (r.fr x hx)
end
inductive Pr_lridden (x y z u v:V) (H:Hp) (Q:VK):Prop
 | mk (P pp q ys sts qi ns most qb bs W μ M) (_:x=.ref pp) (_:PgAt [] H P pp) (_:PgOk P) (_:y=.ref q) (_:LaneAt H sts q ys) (_:sts.length<=1000) (_:∀ st∈sts,DOk P st/\∀ s,st.paper=[s]->st.many=ZbT P s.1) (_:∀ st∈sts,NoGT st.deed) (_:z=.ref qi) (_:H qi=some (.lst ((ns:List Int).map V.int))) (_:ns.length<=100000) (_:∀ x∈ns,x.natAbs<=10 ^ 60) (_:u=.int most) (_:most<=900) (_:v=.ref qb) (_:H qb=some (.lst ((bs:List Bool).map V.bl))) (_:bs.length<=1000) (_:LGood P sts most W μ M) (_:LSim P sts most ns W) (_:∀ h l n t ps sf sn sl gz ve lg vs H',RTo P sts most bs ns h l n->h=hit P ns most.toNat->¬ (h.fin=none/\h.gone < most)->SA ps sf sn sl gz H' h ve->H' lg=some (.lst vs)->Reps H' (l.map logD) vs->H' t=some (.tup [.ref ps,.ref lg])->Same H H'->l.length<=2 * n->Q (.ref t) H'):Pr_lridden x y z u v H Q
def ZcR:Sp:=sp5 (Pr_lridden)
theorem sc__law_ridden:FnScope ["program","lane","inputs","most","when","state","answers","doors","log","place"] ["program","lane","inputs","most","when"] (Zan Zci):=by walk_at"fs"
theorem Zf8 (B:Blt mg) (T__law_ridden:TopFn K mg "_law_ridden" Zci ["program","lane","inputs","most","when"]) (Zdd:Callee P w K mg base "_law_begun" 1 ["program","inputs"] (ZcY K)) (Zd4:Callee P w K mg base "_law_doors" 2 ["lane"] (Zgk)) (Zdc:Callee P w K mg base "_law_in_lane" 3 ["program","lane","state","most","answers","k"] Zgl) (ZdH:Callee P w K mg base "_law_step" 3 ["program","state"] ZcW):Callee P w K mg base "_law_ridden" 4 ["program","lane","inputs","most","when"] ZcR:=by
 refine T__law_ridden.ok5 sc__law_ridden fun f cdv A outer s H v1 v2 v3 v4 v5 Q E hr hh=>?_
 have nd:=sc__law_ridden.nd
 have hu:=hr.units
 have hu1:=ZkS hr
 obtain ⟨Pg,pp,q,ys,sts,qi,ns,most,qb,bs,W,μ,M,rfl,pg,PO,rfl,la,hsl,hdok,hng,rfl,hqi,hl,hn,rfl,hm,rfl,hqb,hbl,G,S,k⟩:=hh
 refine' ZaB [some (.ref pp),some (.ref q),some (.ref qi),some (.int most),some (.ref qb),none,none,none,none,none] rfl ?hb ?hg
 case hb=>exact (Zaf (Zbl (i:=5) nd rfl (Or.inl rfl) (ZaS Zdd hr.m (by rfl) (Zac (pv 0) (Zac (pv 2) Zad)))) (Zaf (Zbl (i:=6) nd rfl (Or.inl rfl) (Zbf (ZdT (K:=K) rfl) (by rfl) B.b_list ZdZ (Zac (pv 4) Zad))) (Zaf (Zbl (i:=7) nd rfl (Or.inl rfl) (ZaS Zd4 hr.m (by rfl) (Zac (pv 1) Zad))) (Zaf (ZcM (i:=8) nd rfl (Or.inl rfl) (ZaH Zad)) (Zaf (Zeh PassesOwn.never (PW.pt (Zbk (Zar Zeu (Zai (k_ix (K:=K) rfl) (pv 5) Zaa (fun _ _=>rfl)) Zcr (Zau _)) (Zba (Zar ZhA (Zai (k_ix (K:=K) rfl) (pv 5) Zaa (fun _ _=>rfl)) (pv 3) (Zau _))))) (Zaf (ZcL (i:=9) nd rfl (Or.inl rfl) (Zap (Zav (Zai (k_ix (K:=K) rfl) (Zai (k_ix (K:=K) rfl) (Zai (k_ix (K:=K) rfl) (pv 5) Zaa (fun _ _=>rfl)) (Zcp ZbB Zaa) (fun _ _=>rfl)) Zaa (fun _ _=>rfl)) (Zav (Zai (k_ix (K:=K) rfl) (Zai (k_ix (K:=K) rfl) (Zai (k_ix (K:=K) rfl) (pv 5) Zaa (fun _ _=>rfl)) (Zcp ZbB Zaa) (fun _ _=>rfl)) Zaa (fun _ _=>rfl)) Zad)))) (Zal (ZaZ (PW.pt (Zbk (Zlt (pc_din hu1 (pv 9) (pv 7))) (Zbk (Zar Zmk (Zbb (ZdU (K:=K) rfl) (by rfl) B.b_len Zcu (Zav (Zai (k_ix (K:=K) rfl) (pv 5) Zaa (fun _ _=>rfl)) Zad)) Zaa (Zau _)) (Zbk (Zar (k_neE (K:=K) rfl hu) (pv 6) (ZaH Zad) (Zau _)) (Zba (ZdK (k_bm (K:=K) rfl PySem.F.plainAttrs_list PySem.F.slot_list_pop PySem.F.type_list_pop ZdF (pv 6) (Zab Zaa Zad)))))))) (Zal (ZdQ (i:=8) nd rfl (Or.inl rfl) (ZaN Zek (pv 8) (ZaS Zdc hr.m (by rfl) (Zac (pv 0) (Zac (pv 1) (Zac (pv 5) (Zac (pv 3) (Zac (pv 6) (Zav (Zme hu1 (pv 7) (pv 9) (fun _ _=>rfl)) Zad)))))))))) (Zal (Zbm (ZaS ZdH hr.m (by rfl) (Zac (pv 0) (Zac (pv 5) Zad))))))))) (Zal (Zay (Zap (Zac (pv 5) (Zac (pv 8) Zad))))))))))
 have HOA:=fun i=>ZeH PO hn hl i
 walk_at"rdx"
 refine use2 ⟨[],_,pp,qi,ns,rfl,rfl,pg,PO,hqi,fun ps sf sn sl gz H1 s1 a1 n1=>?_⟩
 walk_at"rdx"
 refine Zc7 (.inl (SqL.of (s1 _ _ hqb))) fun qa hqa=>?_
 have s2':=Same.new (o:=.lst (bs.map V.bl)) hqa
 have q2:upd H1 qa (.lst (bs.map V.bl)) qa=some (.lst (bs.map V.bl)):=Zag
 have s2:=s1.trans s2'
 have a2:=a1.mono s2'
 generalize upd H1 qa (.lst (bs.map V.bl))=H2 at s2 s2' q2 a2
 have nqa:qa∉ownA ps sf sn sl gz:=fun m=>by
  rw[<-Zbg (h:=ZeJ Pg ns) (ve:=.non)] at m
  obtain ⟨ob,hob,rfl⟩:=mem_map.mp m
  rw[a1.all _ hob] at hqa
  cases hqa
 have out2:∀ {x:Addr},H2 x=none->x∉qa::ownA ps sf sn sl gz:=fun {x} hx m=>by
  rcases mem_cons.mp m with e|m
  ·rw[e,q2] at hx;cases hx
  ·rw[<-Zbg (h:=ZeJ Pg ns) (ve:=.non)] at m
   obtain ⟨ob,hob,rfl⟩:=mem_map.mp m
   rw[a2.all _ hob] at hx
   cases hx
 walk_at"rdx"
 refine use1 ⟨Pg,q,ys,sts,rfl,la.mono s2,hsl,hdok,fun d H3 dr hd s3=>?_⟩
 walk_at"rdx"
 walk_at"mk";intro lg hlg
 have s4:=Same.new (o:=.lst []) hlg
 have e4:upd H3 lg (.lst []) lg=some (.lst []):=Zag
 generalize upd H3 lg (.lst [])=H4 at s4 e4
 have s34:=s3.trans s4
 have R0:RJ Pg sts bs H ps sf sn sl qa d lg H4 (hit Pg ns 0) [] 0 gz .non []:=⟨a2.mono s34,s34 _ _ q2,nqa,dr.of fun o e=>s4 _ _ e,out2 hd,e4,ZaM,out2 (s3.free hlg),s2.trans s34,fun x hx=>(mem_cons.mp hx).elim (fun e=>by rw[e];exact s1.free hqa) (n1 x),Nat.zero_le _⟩
 clear s34 a2 q2 s2 s2' out2 dr e4 a1
 walk_at"rdx"
 refine ⟨(fun mm σ Hx=>Ex8 fun i l n gz ve lg vs c9=>An5 (mm=(bs.length - n) * (most.toNat+1)+(most.toNat - i)) (σ=[some (.ref pp),some (.ref q),some (.ref qi),some (.int most),some (.ref qb),some (.ref ps),some (.ref qa),some (.ref d),some (.ref lg),c9]) (Ran Pg ns most i) (RJ Pg sts bs H ps sf sn sl qa d lg Hx (hit Pg ns i) l n gz ve vs) (RTo Pg sts most bs ns (hit Pg ns i) l n)),⟨_,0,[],0,gz,.non,lg,[],none,rfl,rfl,Ran.zero,R0,.init⟩,?_⟩
 rintro mm σ Hx ⟨i,l,n,gz,ve,lg,vs,c9,rfl,rfl,rn,R,rt⟩
 obtain ⟨HOi,gi⟩:=HOA i
 have fin:¬ ((hit Pg ns i).fin=none/\(hit Pg ns i).gone < most)->hit Pg ns most.toNat=hit Pg ns i->(tRet (tTup (Zae (tVar 5) (Zae (tVar 8) tNil)))) { nx:=fun _ H'=>Q .non H',rt:=Q } [some (.ref pp),some (.ref q),some (.ref qi),some (.int most),some (.ref qb),some (.ref ps),some (.ref qa),some (.ref d),some (.ref lg),c9] Hx:=by
  intro hstop hi
  walk_at"rdx"
  walk_at"mk";intro t ht
  have s8:=Same.new (o:=.tup [V.ref ps,V.ref lg]) ht
  have R8:=R.mono s8
  exact k _ l n t ps sf sn sl gz ve lg vs _ rt hi.symm hstop R8.a R8.lst R8.rp Zag R8.sm R8.few
 walk_at"rdx"
 refine Zak (v:=ve) R.a.obj rfl ?_
 walk_at"rdx"
 have en:=R.a.en
 cases hf:(hit Pg ns i).fin with
 | some e =>
  rw[hf] at en
  refine Zao (ZgN en) ?_
  refine iteF ?_
  exact fin (fun z=>by rw[hf] at z;cases z.1) (rn.done1 hf)
 | none =>
  rw[hf] at en
  obtain rfl:=ZgO en
  refine ZaJ rfl ?_
  walk_at"rdx"
  refine Zak (v:=.int (hit Pg ns i).gone) R.a.obj rfl ?_
  walk_at"rdx"
  refine Zbr (fun hg=>?_) (fun hg=>fin (fun z=>hg z.2) (rn.done2 hf hg))
  refine ZcQ fun N hN=>?_
  have hgi:=rn.gone hf
  have rn':=rn.next PO HOi hf hg
  have hlt:i < most.toNat:=by lia
  obtain ⟨gz0,z,hz⟩:∃ gz0 z,gz=gz0++[z]:=by
   rcases eq_nil_or_concat gz with e|⟨l,x,e⟩
   ·have:=R.a.fr
    rw[e] at this
    exact absurd this.symm HOi.ne
   ·exact ⟨l,x,by simpa using e⟩
  subst hz
  have hfr:(hit Pg ns i).frames=gz0.map (·.2)++[z.2]:=by rw[<-R.a.fr];simp
  obtain ⟨kvs,hkv,hkl,hval⟩:=R.dr
  have hz1:=R.a.z1 (z:=z) (by simp)
  have hlast:atI ((gz0++[z]).map fun z=>V.ref z.1.1) (-1)=some (.ref z.1.1):=by rw[map_append];exact Zlg _ _
  walk_at"rdx"
  refine Zak (v:=.ref sf) R.a.obj rfl ?_
  walk_at"rdx"
  refine Zak (v:=.ref z.1.1) R.a.fl hlast ?_
  walk_at"rdx"
  refine Zak (v:=.int z.2.1) hz1 rfl ?_
  walk_at"rdx"
  refine Zak (v:=.ref sf) R.a.obj rfl ?_
  walk_at"rdx"
  refine Zak (v:=.ref z.1.1) R.a.fl hlast ?_
  walk_at"rdx"
  refine Zak (v:=.int z.2.2.1) hz1 rfl ?_
  walk_at"rdx"
  walk_at"mk";intro t ht
  have s9:=Same.new (o:=.tup [V.int z.2.1,V.int z.2.2.1]) ht
  have e9:upd Hx t (.tup [V.int z.2.1,V.int z.2.2.1]) t=some (.tup ((key2 (z.2.1,z.2.2.1)).map kV)):=Zag
  have R9:=R.mono s9
  have hkv9:=s9 _ _ hkv
  generalize upd Hx t (.tup [V.int z.2.1,V.int z.2.2.1])=H9 at s9 e9 R9 hkv9
  have hmul:∀ {n':Nat},n<=n'->(bs.length - n') * (most.toNat+1)+(most.toNat - (i+1)) < (bs.length - n) * (most.toNat+1)+(most.toNat - i):=fun {n'} h=>by
   have:(bs.length - n') * (most.toNat+1)<=(bs.length - n) * (most.toNat+1):=Nat.mul_le_mul_right _ (by lia)
   lia
  refine ZaC ?_
  dsimp only
  refine Zls (fun H1=>∃ k,An7 (dAt Pg sts (z.2.1,z.2.2.1)=some k) ((hit Pg ns i).frames.length<=17) (bs.getD n false=true) (n < bs.length) (RJ Pg sts bs H ps sf sn sl qa d lg H1 (hit Pg ns i) l (n+1) (gz0++[z]) .non vs) (H1 d=some (.dT kvs)) (H1 t=some (.tup ((key2 (z.2.1,z.2.2.1)).map kV)))) (fun H1=>∃ n',An3 (n<=n') (RJ Pg sts bs H ps sf sn sl qa d lg H1 (hit Pg ns i) l n' (gz0++[z]) .non vs) (RTo Pg sts most bs ns (hit Pg ns (i+1)) l n')) (fun Rr hY hNo=>?_) ?_ ?_
  ·walk_at"rdx"
   unfold tDIn
   walk_at"rdx"
   refine ⟨d,_,rfl,DGet.t hkv9 e9,?_⟩
   rw[hval]
   refine ⟨_,rfl,?_⟩
   cases hkd:dAt Pg sts (z.2.1,z.2.2.1) with
   | none =>
    refine Ze8 rfl ?_
    exact hNo _ ⟨n,Nat.le_refl _,R9,.plain rt hf hg hfr (.inl hkd)⟩
   | some k1 =>
    refine Zew rfl ?_
    walk_at"rdx"
    refine Zak (v:=.ref sf) R9.a.obj rfl ?_
    walk_at"rdx"
    refine ZbD (SqL.of R9.a.fl) ?_
    have hlen:((gz0++[z]).map fun z=>V.ref z.1.1).length=(hit Pg ns i).frames.length:=by rw[hfr];simp
    rw[hlen]
    walk_at"rdx"
    refine Zbr (fun hr17=>?_) (fun hr17=>?_)
    case refine_2 =>
     exact hNo _ ⟨n,Nat.le_refl _,R9,.plain rt hf hg hfr (.inr (fun z=>hr17 (by lia)))⟩
    have hroom:(hit Pg ns i).frames.length<=17:=by lia
    walk_at"rdx"
    walk_at"mk";intro qe hqe
    have s4:=Same.new (o:=.lst []) hqe
    refine Zlq (s4 _ _ R9.q) Zag ?_
    have R4:=R9.mono s4
    have hkv4:=s4 _ _ hkv9
    have e4:=s4 _ _ e9
    generalize upd H9 qe (.lst [])=H4 at s4 R4 hkv4 e4
    refine ⟨_,rfl,?_⟩
    have q4:=R4.q
    cases hans:bs.drop n with
    | nil =>
     refine Ze8 (by rfl) ?_
     have hn1:bs.length<=n:=drop_eq_nil_iff.mp hans
     refine hNo _ ⟨n+1,Nat.le_succ _,R4.goes R4.a (by rw[q4,hans,drop_eq_nil_iff.mpr (by lia)]) R4.nq (by have:=R4.few;lia) (OSame.refl _ _) (fun x hx=>.inl hx),.no rt hf hg hfr hkd hroom ?_⟩
     rw[getD_eq_getElem?_getD,getElem?_eq_none hn1];rfl
    | cons b r =>
     rw[hans] at q4
     have hnb:n < bs.length:=by
      have:=congrArg List.length hans
      rw[length_drop,length_cons] at this
      lia
     have hbn:bs.getD n false=b:=by
      have:(bs.drop n)[0]?=some b:=by rw[hans];rfl
      rw[getElem?_drop,Nat.add_zero] at this
      rw[getD_eq_getElem?_getD,this];rfl
     have hdr:bs.drop (n+1)=r:=by
      rw[<-drop_drop,hans];rfl
     refine Zew rfl ?_
     walk_at"rdx"
     refine ⟨.inl ⟨rfl,_,SqL.of q4⟩,?_⟩
     walk_at"rdx"
     refine ⟨qa,_,0,0,V.bl b,rfl,rfl,q4,by decide,by decide,?_,rfl,?_⟩
     ·unfold PySem.seqIndex?
      simp
     rw[show (List.map V.bl (b::r)).eraseIdx 0=r.map V.bl from rfl]
     have oq:OSame [qa] H4 (upd H4 qa (.lst (r.map V.bl))):=OSame.wr mem_cons_self
     have ntq:ZeA [qa] H4:=fun x hx xs e=>by rw[mem_singleton.mp hx,q4] at e;cases e
     have a5:=R4.a.by oq ntq (fun x hx e=>R4.nq (by rw[<-mem_singleton.mp e];exact hx))
     have R5:=R4.goes (n':=n+1) a5 (by rw[Zag,hdr]) R4.nq (by have:=R4.few;lia) (fun x o nx ex=>oq x o (fun e=>nx (by rw[mem_singleton.mp e];exact mem_cons_self)) ex) (fun x hx=>.inl hx)
     have hkv5:upd H4 qa (.lst (r.map V.bl)) d=some (.dT kvs):=oq _ _ (fun e=>R4.nd (by rw[mem_singleton.mp e];exact mem_cons_self)) hkv4
     have e5:upd H4 qa (.lst (r.map V.bl)) t=some (.tup ((key2 (z.2.1,z.2.2.1)).map kV)):=oq.ts ntq _ _ e4
     generalize upd H4 qa (.lst (r.map V.bl))=H5 at R5 hkv5 e5
     refine ⟨b,rfl,?_⟩
     cases b with
     | true=>exact hY _ ⟨k1,hkd,hroom,hbn,hnb,R5,hkv5,e5⟩
     | false=>exact hNo _ ⟨n+1,Nat.le_succ _,R5,.no rt hf hg hfr hkd hroom hbn⟩
  ·rintro H1 ⟨k1,hkd,hroom,hb,hnb,R1,hkv1,e1⟩
   have hfew:=R9.few
   have wk:=S.into i _ _ k1 hf hg hfr hroom hkd
   walk_at"rdx"
   refine ⟨d,.int k1,rfl,(by have:=DGet.t hkv1 e1;rw[hval,hkd] at this;exact this),?_⟩
   walk_at"rdx"
   refine use6 ⟨Pg,pp,q,ys,sts,ps,sf,sn,sl,gz0,z,hit Pg ns i,.non,most,qa,bs,n+1,k1,H,W,μ,M,rfl,R1.pg pg,rfl,la,R1.sm,R1.fr,rfl,R1.a,rfl,rfl,R1.q,R1.nq,rfl,G,wk,hng,hbl,HOi.few,fun h' why k' n' gz' lg2 vs2 H2 lr a2 q2 nq2 o2 nw2 l2 r2=>?_⟩
   obtain ⟨⟨h2,ws2,st2,w2,es2,rfl⟩,hnn⟩:=LRun.ends G lr wk
   obtain ⟨j,hj,rnj⟩:=S.out _ _ _ _ w2 es2
   have R2:=R1.goes a2 q2 nq2 (by lia) o2 nw2
   have rt2:=RTo.over rt hf hg hfr hkd hroom hb lr
   rw[hj] at R2 rt2 r2
   have hvl:vs.length=l.length:=by have:=R2.rp.length;rw[length_map] at this;exact this.symm
   have hv2:vs2.length=2:=r2.length.symm
   refine ZeE R2.lst l2 (Za2 (by lia)) fun p9 hp9=>?_
   have s9:=Same.new (o:=.lst (vs++vs2)) hp9
   have R3:=R2.mono s9
   walk_at"rdx"
   refine hN _ _ ⟨_,?_,j,_,n',gz',.non,p9,vs++vs2,_,rfl,rfl,rnj,⟨R3.a,R3.q,R3.nq,R3.dr,R3.nd,Zag,?_,?_,R3.sm,R3.fr,?_⟩,rt2⟩
   ·have:(bs.length - n') * (most.toNat+1)+(most.toNat+1)<=(bs.length - n) * (most.toNat+1):=by
     rw[<-Nat.succ_mul]
     exact Nat.mul_le_mul_right _ (by lia)
    lia
   ·rw[map_append]
    exact R3.rp.append (r2.mono s9.ts)
   ·intro m
    have:=R2.q
    rcases mem_cons.mp m with e|m
    ·rw[<-e,hp9] at this;cases this
    ·rw[<-Zbg (h:=hit Pg ns j) (ve:=.non)] at m
     obtain ⟨ob,hob,rfl⟩:=mem_map.mp m
     rw[R2.a.all _ hob] at hp9
     cases hp9
   ·rw[length_append]
    simp
    lia
  ·rintro H1 ⟨n',hn',R1,rt1⟩
   walk_at"rdx"
   refine use2 ⟨pp,_,ps,sf,sn,sl,_,_,.non,rfl,rfl,(R1.pg pg).by (OSame.refl _ _) (fun _ _ e=>e) (fun x hx=>.inl (mem_cons_of_mem _ hx)),R1.a,PO,HOi,hf,by lia,fun gz' ve' H4 a4 o4 f4=>?_⟩
   walk_at"rdx"
   refine hN _ _ ⟨_,hmul hn',i+1,l,n',gz',ve',lg,vs,_,rfl,rfl,rn',R1.goes a4 (o4 _ _ R1.nq R1.q) ?_ R1.few (fun b u nb e=>o4 b u (fun w=>nb (mem_cons_of_mem _ w)) e) f4,rt1⟩
   intro m
   rcases f4 qa m with e|e
   ·exact R1.nq e
   ·rw[R1.q] at e;cases e
end
end My
end
section
namespace My
open PySem L2
section
variable {P:Program} {w:World} {K:W.Frag} {mg:Str->Option Value} {base:Heap}
variable {C CC:Addr}
theorem Zk1 {H0:Hp} {σ:St} {i w:Nat} (e:σ[i]?=some (some (.int w))):DT H0 (tOp (rIxA K) (tLst (Zae (tC (.int 0)) (Zae (tC (.int 1)) tNil))) (tOp (rI (fun _ j=>0 < j) fun i j=>V.int (i % j)) (tVar i) (tC (.int 2)))) σ (.int ((w % 2:Nat):Int)):=fun H s Q k =>
 ⟨Zcc rfl,fun p hp=>⟨_,e,(w:Int),2,rfl,rfl,by show (0:Int) < 2;decide,Zak Zag (by
  have:=Nat.mod_two_eq_zero_or_one w
  show atI [V.int 0,V.int 1] ((w:Int) % 2)=some (.int ((w % 2:Nat):Int))
  rw[show (w:Int) % 2=((w % 2:Nat):Int) by lia]
  rcases this with h|h <;> rw[h] <;> rfl) (k _ _ (Same.new hp) ZaR)⟩⟩
local macro_rules | `(tactic| walk_at"ddy") => `(tactic| repeat (first | exact ZgS | exact Zin | exact ZgQ | exact Zim | exact dt_subV rfl | exact Zk1 rfl | exact Zfb rfl ZaR | exact Zfb rfl (by assumption) | exact ZeP rfl (by assumption) (by assumption) | exact ZmJ rfl (by assumption) (by rfl) (by assumption) | refine ZdY ?_ ?_ | refine ZgP ?_))
theorem wrN50 {H H1:Hp} {a:Addr} {o:HO} (s:Same H H1) (h:H a=none):Same H (upd H1 a o):=fun b u e=>by
 rw[Zax (ZbV e h)]
 exact s _ _ e
theorem Zfv {H : Hp} {d : D} {v : V} : ∀ {ds : List D} {vs : List V}, Reps H ds vs -> Rep H d v -> ∀ i : Nat, Reps H (ds.set i d) (vs.set i v)
  | [], vs, h, _, i => by rw[ZaD h]; exact ZaM
  | d1 :: ds, vs, h, r, i => by
    obtain ⟨u,zr,rfl,r1,rz⟩:=Zaj h
    cases i with
    | zero => exact Zas r rz
    | succ i => exact Zas r1 (Zfv rz r i)
inductive Pr_prog50 (x y:V) (H:Hp) (Q:VK):Prop
 | mk (c:Int) (w:Nat) (_:x=.int c) (_:y=.int w) (_:w<=5) (_:∀ pp H',Same H H'->FPg H H' (P50 c w) pp->Q (.ref pp) H'):Pr_prog50 x y H Q
def Zd5:Sp:=sp2 (Pr_prog50)
theorem sc__law_program:FnScope ["count","way","outer","inner","far","farther","told"] ["count","way"] (Zan Zb6):=by walk_at"fs"
theorem Zfl (B:Blt mg) (T__law_program:TopFn K mg "_law_program" Zb6 ["count","way"]):Callee P w K mg base "_law_program" 1 ["count","way"] Zd5:=by
 refine T__law_program.ok2 sc__law_program fun f cdv A outer s H v1 v2 Q E hr hh=>?_
 have nd:=sc__law_program.nd
 obtain ⟨c,w,rfl,rfl,hw,k⟩:=hh
 refine' ZaB [some (.int c),some (.int w),none,none,none,none,none] rfl ?hb ?hg
 case' hb=>refine' Zaf ?bab ?bac
 case' bab=>refine' ZcM (i:=2) ?bad ?bae ?baf ?bag
 case bad=>exact nd
 case bae=>exact rfl
 case baf=>exact (Or.inl rfl)
 case' bag=>refine' ZaH ?bah
 case' bah=>refine' Zam ?bai ?baj
 case bai=>exact (Zap (Zab Zat (Zab Zaa (Zac (pv 0) Zad))))
 case' baj=>refine' Zam ?bak ?bal
 case bak=>exact (Zap (Zab Zat (Zab Zaa (Zab Zaa Zad))))
 case' bal=>refine' Zam ?bam ?ban
 case bam=>exact (Zap (Zab Zat (Zab Zaa (Zab Zaa (Zam (Zap (Zab Zaa (Zab Zaa Zad))) Zad)))))
 case ban=>exact (Zam (Zap (Zab Zat (Zab Zaa Zad))) (Zam (Zap (Zab Zat (Zab Zaa Zad))) Zad))
 case' bac=>refine' Zaf ?bao ?bap
 case' bao=>refine' ZcM (i:=3) ?baq ?bar ?bas ?bat
 case baq=>exact nd
 case bar=>exact rfl
 case bas=>exact (Or.inl rfl)
 case' bat=>refine' ZaH ?bau
 case' bau=>refine' Zam ?bav ?baw
 case bav=>exact (Zap (Zab Zat (Zab Zaa (Zab Zaa Zad))))
 case' baw=>refine' Zam ?bax ?bay
 case bax=>exact (Zap (Zab Zat (Zab Zaa (Zab Zaa (Zab Zaa Zad)))))
 case' bay=>refine' Zam ?baz ?bba
 case baz=>exact (Zap (Zab Zat (Zab Zaa (Zab Zaa (Zam (Zap (Zab Zaa (Zab Zaa Zad))) Zad)))))
 case' bba=>refine' Zam ?bbb ?bbc
 case bbb=>exact (Zap (Zab Zat (Zab Zaa (Zab Zaa (Zam (Zap (Zab Zaa (Zab Zaa Zad))) Zad)))))
 case bbc=>exact (Zam (Zap (Zab Zat (Zab Zaa Zad))) Zad)
 case' bap=>refine' Zaf ?bbd ?bbe
 case' bbd=>refine' ZdQ (i:=3) ?bbf ?bbg ?bbh ?bbi
 case bbf=>exact nd
 case bbg=>exact rfl
 case bbh=>exact (Or.inl rfl)
 case' bbi=>refine' ZaN ?bbj ?bbk ?bbl
 case bbj=>exact Zek
 case bbk=>exact (pv 3)
 case' bbl=>refine' ZaH ?bbm
 case' bbm=>refine' Zam ?bbn ?bbo
 case bbn=>exact (Zap (Zab Zat (Zab Zaa Zad)))
 case' bbo=>refine' Zam ?bbp ?bbq
 case bbp=>exact (Zap (Zab Zat (Zab Zaa (Zab Zaa (Zab Zaa Zad)))))
 case bbq=>exact (Zam (Zap (Zab Zat (Zab Zaa Zad))) Zad)
 case' bbe=>refine' Zaf ?bbr ?bbs
 case' bbr=>refine' ZaZ ?bbt ?bbu ?bbv
 case bbt=>exact (Zar ZaX (pv 1) Zaa (Zau _))
 case bbu=>exact (Zal (Za3 (Zap (Zab Zat (Zab Zaa (Zab Zaa Zad)))) (Zbq (pv 3) Zaa ZaO)))
 case bbv=>exact ZaE
 case' bbs=>refine' Zaf ?bbw ?bbx
 case' bbw=>refine' ZcM (i:=4) ?bby ?bbz ?bca ?bcb
 case bby=>exact nd
 case bbz=>exact rfl
 case bca=>exact (Or.inl rfl)
 case' bcb=>refine' ZaH ?bcc
 case' bcc=>refine' Zam ?bcd ?bce
 case bcd=>exact (Zap (Zab Zat (Zab Zaa (Zab Zaa (Zab Zaa Zad)))))
 case' bce=>refine' Zam ?bcf ?bcg
 case bcf=>exact (Zap (Zab Zat (Zab Zaa (Zab Zaa (Zam (Zap (Zab Zaa Zad)) Zad)))))
 case bcg=>exact (Zam (Zap (Zab Zat (Zab Zaa Zad))) Zad)
 case' bbx=>refine' Zaf ?bch ?bci
 case' bch=>refine' ZcM (i:=5) ?bcj ?bck ?bcl ?bcm
 case bcj=>exact nd
 case bck=>exact rfl
 case bcl=>exact (Or.inl rfl)
 case' bcm=>refine' ZaH ?bcn
 case' bcn=>refine' Zam ?bco ?bcp
 case bco=>exact (Zap (Zab Zat (Zab Zaa (Zab Zaa (Zam (Zap (Zab Zaa Zad)) Zad)))))
 case' bcp=>refine' Zam ?bcq ?bcr
 case' bcq=>refine' Zap ?bcs
 case' bcs=>refine' Zab ?bct ?bcu
 case bct=>exact Zat
 case bcu=>exact (Zav (Zai (k_ix (K:=K) rfl) (ZaH (Zab Zaa (Zab Zaa Zad))) (ZaN ZeF (pv 1) Zaa) (fun _ _=>rfl)) Zad)
 case bcr=>exact Zad
 case' bci=>refine' Zaf ?bcv ?bcw
 case' bcv=>refine' ZcM (i:=6) ?bcx ?bcy ?bcz ?bda
 case bcx=>exact nd
 case bcy=>exact rfl
 case bcz=>exact (Or.inl rfl)
 case' bda=>refine' ZaH ?bdb
 case' bdb=>refine' Zam ?bdc ?bdd
 case bdc=>exact (Zap (Zab Zat (Zab Zaa Zad)))
 case' bdd=>refine' Zam ?bde ?bdf
 case bde=>exact (Zap (Zab Zat (Zab Zaa (Zab Zaa (ZdE (Zcp ZbB Zaa) Zad)))))
 case bdf=>exact (Zam (Zap (Zab Zat (Zab Zaa Zad))) Zad)
 case' bcw=>refine' Zal ?bdg
 case' bdg=>refine' Zay ?bdh
 case' bdh=>refine' ZaH ?bdi
 case' bdi=>refine' Zam ?bdj ?bdk
 case bdj=>exact (Zap (Zab Zaa (Zab Zaa (Zac (pv 2) Zad))))
 case' bdk=>refine' Zam ?bdl ?bdm
 case bdl=>exact (Zap (Zab Zaa (Zab Zaa (Zac (pv 3) Zad))))
 case' bdm=>refine' Zam ?bdn ?bdo
 case bdn=>exact (Zap (Zab Zaa (Zab Zaa (Zac (pv 4) Zad))))
 case' bdo=>refine' Zam ?bdp ?bdq
 case bdp=>exact (Zap (Zab Zaa (Zab Zaa (Zac (pv 5) Zad))))
 case bdq=>exact (Zam (Zap (Zab Zaa (Zab Zaa (Zac (pv 6) Zad)))) Zad)
 refine Zbo (Zbp ?_)
 refine Zfc (ds:=ZdN (Ze2 c)) ?_ fun q1 vs1 H1 s1 n1 l1 r1=>?_
 ·walk_at"ddy"
 refine ZaC ?_
 dsimp only
 refine Zbo (Zbp ?_)
 refine Zfc (ds:=ZdN [.zero 0 5,.less 0 0 1,.call 2 2 [0,1],.call 2 1 [0,1],.jump 6]) ?_ fun q2 vs2 H2 s2 n2 l2 r2=>?_
 ·walk_at"ddy"
 refine ZaC ?_
 dsimp only
 refine Zbo (Zbp (ZfM ⟨_,rfl,?_⟩))
 refine Zfc (ds:=ZdN [.back 1,.plus 2 2 0,.back 2]) ?_ fun q3 vs3 H3 s3 n3 l3 r3=>?_
 ·walk_at"ddy"
 have hl2:vs2.length=5:=DA.len r2
 have hl3:vs3.length=3:=DA.len r3
 refine ZeE (s3 _ _ l2) l3 (by rw[hl2,hl3];exact Za2 (by decide)) fun q4 hq4=>?_
 have s4:=Same.new (o:=.lst (vs2++vs3)) hq4
 have l4:upd H3 q4 (.lst (vs2++vs3)) q4=some (.lst (vs2++vs3)):=Zag
 have r4:Reps (upd H3 q4 (.lst (vs2++vs3))) (ZdN [.zero 0 5,.less 0 0 1,.call 2 2 [0,1],.call 2 1 [0,1],.jump 6,.back 1,.plus 2 2 0,.back 2]) (vs2++vs3):=((r2.mono s3.ts).append r3).mono s4.ts
 generalize upd H3 q4 (.lst (vs2++vs3))=H4 at s4 l4 r4
 have s04:=((s1.trans s2).trans s3).trans s4
 have n4:H q4=none:=((s1.trans s2).trans s3).free hq4
 have s14:=(s2.trans s3).trans s4
 have hne:q4≠q1:=fun z=>by
  rw[z,(s2.trans s3) _ _ l1] at hq4;cases hq4
 have hl4:(vs2++vs3).length=8:=by rw[length_append,hl2,hl3]
 generalize vs2++vs3=vs4 at l4 r4 hl4
 refine ZaC ?_
 dsimp only
 refine ZlX (fun σ' H'=>σ'=[some (.int c),some (.int w),some (.ref q1),some (.ref q4),none,none,none]/\Same H H'/\H' q1=some (.lst vs1)/\Reps H' (ZdN (Ze2 c)) vs1/\∃ vs,H' q4=some (.lst vs)/\Reps H' (ZdN (Zdr w)) vs) ?_ fun N hN=>?_
 ·rintro σ' H5 ⟨rfl,s5,l15,r15,vs,l5,r5⟩
  refine Zbo (Zbp ?_)
  refine Zfc (ds:=ZdN ZkZ) ?_ fun q6 vs6 H6 s6 n6 l6 r6=>?_
  ·walk_at"ddy"
  refine ZaC ?_
  dsimp only
  refine Zbo (Zbp ?_)
  refine Zfc (ds:=ZdN (Zeo w)) ?_ fun q7 vs7 H7 s7 n7 l7 r7=>?_
  ·walk_at"ddy"
  refine ZaC ?_
  dsimp only
  refine Zbo (Zbp ?_)
  refine Zfc (ds:=ZdN ZhX) ?_ fun q8 vs8 H8 s8 n8 l8 r8=>?_
  ·walk_at"ddy"
  refine ZaC ?_
  dsimp only
  walk_at"rdy"
  walk_at"mk";intro t1 ht1
  have m1:=Same.new (o:=.tup [.int 0,.int 3,.ref q1]) ht1
  walk_at"rdy"
  walk_at"mk";intro t2 ht2
  have m2:=Same.new (o:=.tup [.int 2,.int 3,.ref q4]) ht2
  walk_at"rdy"
  walk_at"mk";intro t3 ht3
  have m3:=Same.new (o:=.tup [.int 2,.int 2,.ref q6]) ht3
  walk_at"rdy"
  walk_at"mk";intro t4 ht4
  have m4:=Same.new (o:=.tup [.int 1,.int 2,.ref q7]) ht4
  walk_at"rdy"
  walk_at"mk";intro t5 ht5
  have m5:=Same.new (o:=.tup [.int 1,.int 1,.ref q8]) ht5
  walk_at"rdy"
  walk_at"mk";intro pp hpp
  have m6:=Same.new (o:=.lst [V.ref t1,V.ref t2,V.ref t3,V.ref t4,V.ref t5]) hpp
  have m56:=m5.trans m6
  have m46:=m4.trans m56
  have m36:=m3.trans m46
  have m26:=m2.trans m36
  have m16:=m1.trans m26
  have s57:=s6.trans s7
  have s58:=s57.trans s8
  have sA:=(s5.trans s58)
  refine k pp _ (sA.trans m16) ⟨[.ref t1,.ref t2,.ref t3,.ref t4,.ref t5],Zag,(sA.trans ((((m1.trans m2).trans m3).trans m4).trans m5)).free hpp,rfl,fun j d x e1 e2=>?_⟩
  rcases j with _|_|_|_|_|j
  ·cases e1;cases e2
   exact ⟨t1,q1,_,rfl,m26 _ _ Zag,(s58.trans m16) _ _ l15,n1,r15.mono (s58.trans m16).ts⟩
  ·cases e1;cases e2
   exact ⟨t2,q4,_,rfl,m36 _ _ Zag,(s58.trans m16) _ _ l5,n4,r5.mono (s58.trans m16).ts⟩
  ·cases e1;cases e2
   exact ⟨t3,q6,_,rfl,m46 _ _ Zag,((s7.trans s8).trans m16) _ _ l6,s5.free n6,r6.mono ((s7.trans s8).trans m16).ts⟩
  ·cases e1;cases e2
   exact ⟨t4,q7,_,rfl,m56 _ _ Zag,(s8.trans m16) _ _ l7,(s5.trans s6).free n7,r7.mono (s8.trans m16).ts⟩
  ·cases e1;cases e2
   exact ⟨t5,q8,_,rfl,m6 _ _ Zag,m16 _ _ l8,(s5.trans s57).free n8,r8.mono m16.ts⟩
  ·simp[P50] at e1
 ·have l14:=s14 _ _ l1
  have r14:=r1.mono s14.ts
  walk_at"rdy"
  refine Zbr (fun h5=>?_) (fun h5=>?_)
  ·have h5:w=5:=by lia
   walk_at"rdy"
   refine mk_T (ds:=[.str "copy",.int 2,.int 0]) (Zcc rfl) (Zas Zku (Zas ZaR (Zas ZaR ZaM))) fun p5 H5 s5 r5=>?_
   walk_at"rdy"
   refine Zbh (s5 _ _ l4) (by rw[hl4];rfl) ?_
   have ts:TSame H5 (upd H5 q4 (.lst (vs4.set 2 (.ref p5)))):=TSame.wr fun xs e=>by rw[s5 _ _ l4] at e;cases e
   refine hN _ _ ⟨rfl,wrN50 (s04.trans s5) n4,?_,(r14.mono s5.ts).mono ts,_,Zag,?_⟩
   ·rw[Zax hne.symm]
    exact s5 _ _ l14
   ·have:=Zfv ((r4.mono s5.ts).mono ts) (r5.mono ts) 2
    unfold Zdr x50
    rw[if_pos h5]
    exact this
  ·have h5:w≠5:=by lia
   refine Za5 ?_
   refine hN _ _ ⟨rfl,s04,l14,r14,vs4,l4,?_⟩
   unfold Zdr x50
   rw[if_neg h5]
   exact r4
end
end My
end
section
namespace My
open PySem L2
section
variable {P:Program} {w:World} {K:W.Frag} {mg:Str->Option Value} {base:Heap}
variable {C CC:Addr}
def StdsAt (H:Hp):List Std->List V->Prop
 | [],vs=>vs=[]
 | st::sts,vs=>∃ v r,vs=v::r/\StdAt H st v/\StdsAt H sts r
theorem StdsAt.mono {H H' : Hp} (s : Same H H') : ∀ {sts : List Std} {vs : List V}, StdsAt H sts vs -> StdsAt H' sts vs
  | [], _, h => h
  | st :: sts, vs, h => by
    obtain ⟨v,r,rfl,a,b⟩:=h
    exact ⟨v, r, rfl, a.mono s, b.mono s⟩
theorem StdsAt.len {H : Hp} : ∀ {sts : List Std} {vs : List V}, StdsAt H sts vs -> sts.length = vs.length
  | [], _, h => by rw[show _ = [] from h]; rfl
  | st :: sts, vs, h => by
    obtain ⟨v,r,rfl,a,b⟩:=h
    rw[length_cons, length_cons, b.len]
theorem StdsAt.app {H : Hp} {zs : List Std} {us : List V} (k : StdsAt H zs us) : ∀ {sts : List Std} {vs : List V}, StdsAt H sts vs -> StdsAt H (sts ++ zs) (vs ++ us)
  | [], _, h => by rw[show _ = [] from h]; exact k
  | st :: sts, vs, h => by
    obtain ⟨v,r,rfl,a,b⟩:=h
    exact ⟨v, r ++ us, rfl, a, StdsAt.app k b⟩
theorem StdsAt.set {H : Hp} {z : Std} {u : V} (k : StdAt H z u) : ∀ {sts : List Std} {vs : List V}, StdsAt H sts vs -> ∀ i : Nat, StdsAt H (sts.set i z) (vs.set i u)
  | [], _, h, i => by rw[show _ = [] from h]; rfl
  | st :: sts, vs, h, i => by
    obtain ⟨v,r,rfl,a,b⟩:=h
    cases i with
    | zero => exact ⟨u, r, rfl, k, b⟩
    | succ i => exact ⟨v, r.set i u, rfl, a, StdsAt.set k b i⟩
theorem StdsAt.get {H : Hp} : ∀ {sts : List Std} {vs : List V}, StdsAt H sts vs -> ∀ (i : Nat) st v, sts[i]? = some st -> vs[i]? = some v -> StdAt H st v
  | [], _, h, i, st, v, e1, e2 => by cases e1
  | st :: sts, vs, h, i, s, v, e1, e2 => by
    obtain ⟨v,r,rfl,a,b⟩:=h
    cases i with
    | zero => cases e1; cases e2; exact a
    | succ i => exact b.get i _ _ e1 e2
section
variable {H0:Hp} {σ:St} {ts:TA} {td:TE}
def PS (H0:Hp) (t:TE) (σ:St) (st:Std):Prop:=∀ H,Same H0 H->∀ Q:VK,(∀ v H',Same H H'->StdAt H' st v->Q v H')->t σ H Q
def PSs (H0:Hp) (t:TA) (σ:St) (sts:List Std):Prop:=∀ H,Same H0 H->∀ Q:List V->Hp->Prop,(∀ vs H',Same H H'->StdsAt H' sts vs->Q vs H')->t σ H Q
theorem Zfx {st:Std} (a:DA H0 ts σ (st.paper.map sfDD)) (b:DT H0 td σ st.deed.d) (hl:Nat.ble (st.paper.map sfDD).length 1000=true:=by rfl):PS H0 (tTup (Zae (tC (.int st.many)) (Zae (tLst ts) (Zae td tNil)))) σ st:=fun H s0 Q k=>by
 refine a H s0 _ fun ys H1 s1 r1=>⟨Zcc (by rw[DA.len r1];exact hl),fun l hlN=>?_⟩
 have s2:=Same.new (o:=.lst ys) hlN
 refine b _ ((s0.trans s1).trans s2) _ fun vd H3 s3 r3=>⟨Zcc rfl,fun t ht=>?_⟩
 have s4:=Same.new (o:=.tup [.int st.many,.ref l,vd]) ht
 exact k _ _ (((s1.trans s2).trans s3).trans s4) ⟨t,l,ys,vd,rfl,Zag,s4 _ _ (s3 _ _ Zag),r1.mono ((s2.trans s3).trans s4).ts,r3.mono s4.ts⟩
theorem Zjw {st:Std} {i:Nat} {l:Addr} {ys:List V} (e:σ[i]?=some (some (.ref l))) (hl:H0 l=some (.lst ys)) (r:Reps H0 (st.paper.map sfDD) ys) (b:DT H0 td σ st.deed.d):PS H0 (tTup (Zae (tC (.int st.many)) (Zae (tVar i) (Zae td tNil)))) σ st:=fun H s0 Q k=>by
 refine ⟨_,e,b _ s0 _ fun vd H3 s3 r3=>⟨Zcc rfl,fun t ht=>?_⟩⟩
 have s4:=Same.new (o:=.tup [.int st.many,.ref l,vd]) ht
 have s03:=s0.trans s3
 exact k _ _ (s3.trans s4) ⟨t,l,ys,vd,rfl,Zag,s4 _ _ (s03 _ _ hl),r.mono (s03.trans s4).ts,r3.mono s4.ts⟩
theorem Zlu {st:Std} {i:Nat} {v:V} (e:σ[i]?=some (some v)) (r:StdAt H0 st v):PS H0 (tVar i) σ st:=fun H s Q k=>⟨v,e,k v H (Same.refl _) (r.mono s)⟩
theorem Zh3:PSs H0 tNil σ []:=fun H _ Q k=>k _ H (Same.refl _) rfl
theorem Zdl {t:TE} {st:Std} {sts:List Std} (a:PS H0 t σ st) (b:PSs H0 ts σ sts):PSs H0 (Zae t ts) σ (st::sts):=fun H s Q k=>a H s _ fun v H1 s1 r=>b H1 (s.trans s1) _ fun vs H2 s2 rs=>k _ _ (s1.trans s2) ⟨v,vs,rfl,r.mono s2,rs⟩
theorem ZlG {H:Hp} {Q:VK} {sts:List Std} (a:PSs H ts σ sts) (k:∀ p vs H',Same H H'->H p=none->H' p=some (.lst vs)->StdsAt H' sts vs->Q (.ref p) H') (hl:Nat.ble sts.length 1000=true:=by rfl):tLst ts σ H Q:=a H (Same.refl _) _ fun vs H1 s1 rs=>⟨Zcc (by rw[<-rs.len];exact hl),fun p hp=>k _ _ _ (s1.trans (Same.new hp)) (s1.free hp) Zag (rs.mono (Same.new hp))⟩
theorem PS.go {H:Hp} {Q:VK} {t:TE} {st:Std} (a:PS H t σ st) (k:∀ v H',Same H H'->StdAt H' st v->Q v H'):t σ H Q:=a H (Same.refl _) Q k
theorem Zk0 {i j n w:Nat} {u v:V} {d1 d2 d:D} (e1:σ[i]?=some (some u)) (e2:σ[j]?=some (some v)) (e3:σ[n]?=some (some (.int w))) (r1:Rep H0 d1 u) (r2:Rep H0 d2 v) (hd:d=if w % 2=0 then d1 else d2):DT H0 (tOp (rIxA K) (tLst (Zae (tVar i) (Zae (tVar j) tNil))) (tOp (rI (fun _ j=>0 < j) fun i j=>V.int (i % j)) (tVar n) (tC (.int 2)))) σ d:=fun H s Q k=>by
 refine ⟨_,e1,_,e2,Zcc rfl,fun p hp=>⟨_,e3,(w:Int),2,rfl,rfl,by show (0:Int) < 2;decide,?_⟩⟩
 have sn:=Same.new (o:=.lst [u,v]) hp
 have h2:=Nat.mod_two_eq_zero_or_one w
 show rIxA K (.ref p) (.int ((w:Int) % 2)) _ Q
 rw[show (w:Int) % 2=((w % 2:Nat):Int) by lia]
 rcases h2 with h|h
 ·rw[h] at hd ⊢
  rw[if_pos rfl] at hd
  subst hd
  exact Zak Zag (v:=u) rfl (k _ _ sn (r1.mono (s.trans sn).ts))
 ·rw[h] at hd ⊢
  rw[if_neg (by decide)] at hd
  subst hd
  exact Zak Zag (v:=v) rfl (k _ _ sn (r2.mono (s.trans sn).ts))
end
def Fx (H:Hp) (l:List (D×V)):Prop:=∀ p∈l,Rep H p.1 p.2
theorem Fx.mono {H H':Hp} {l:List (D×V)} (h:Fx H l) (s:Same H H'):Fx H' l:=fun p hp=>(h p hp).mono s.ts
theorem Fx.n {H:Hp} {l:List (D×V)} {d:D} {v:V} (h:Fx H l) (i:Nat) (e:l[i]?=some (d,v)):Rep H d v:=h (d,v) (mem_of_getElem? e)
theorem Fx.add {H:Hp} {l:List (D×V)} {d:D} {v:V} (h:Fx H l) (r:Rep H d v):Fx H (l++[(d,v)]):=fun p hp=>by
 rcases mem_append.mp hp with hp|hp
 ·exact h p hp
 ·rw[mem_singleton.mp hp];exact r
theorem ZdX {H0:Hp} {σ:St} {i n:Nat} {v:V} {d:D} {l:List (D×V)} (h:Fx H0 l) (e:σ[i]?=some (some v)) (a:l[n]?=some (d,v)):DT H0 (tVar i) σ d:=Zfb e (h.n n a)
theorem ZfA {H0:Hp} {σ:St} {i:Nat} {q:Addr} {xs:List V} {m:Int} {v:V} {d:D} {l:List (D×V)} {n:Nat} (h:Fx H0 l) (e:σ[i]?=some (some (.ref q))) (hl:H0 q=some (.lst xs)) (a:atI xs m=some v) (b:l[n]?=some (d,v)):DT H0 (tOp (rIxA K) (tVar i) (tC (.int m))) σ d:=ZmJ e hl a (h.n n b)
theorem Zln {H:Hp} {qs:Addr} {vs:List V} {o:HO} {s0:Std} {ss:List Std} {st:Std} {v:V} (hq:H qs=some (.lst vs)) (hs:StdsAt H (s0::ss) vs) (h:StdAt H st v) (hp:st.paper≠[]):StdAt (upd H qs o) st v:=by
 have ts:TSame H (upd H qs o):=TSame.wr fun xs e=>by rw[hq] at e;cases e
 obtain ⟨t,l,ys,vd,e,h1,h2,h3,h4⟩:=h
 refine ⟨t,l,ys,vd,e,ts _ _ h1,?_,h3.mono ts,h4.mono ts⟩
 rw[Zax ?_]
 ·exact h2
 ·intro z
  subst z
  rw[hq] at h2
  cases h2
  obtain ⟨v0,r,rfl,⟨t0,l0,y0,d0,rfl,h10,_⟩,_⟩:=hs
  cases hpp:st.paper with
  | nil=>exact hp hpp
  | cons a b =>
   rw[hpp] at h3
   obtain ⟨v1,r1,e1,ra,_⟩:=Zaj h3
   cases e1
   obtain ⟨t1,zs,e2,ht1,rz⟩:=ZaG (show Rep H (.tup [.int a.1,.int a.2.1,.tup (a.2.2.map fmD)]) (.ref t0) from ra)
   cases e2
   rw[h10] at ht1
   cases ht1
   obtain ⟨_,_,e3,_,rz⟩:=Zaj rz
   cases e3
   obtain ⟨_,_,e4,r4,_⟩:=Zaj rz
   cases e4
   exact absurd (ZaK r4) (by intro z;cases z)
theorem StdsAt.wr {H : Hp} {qs : Addr} {vs : List V} {o : HO} {s0 : Std} {ss : List Std} (hq : H qs = some (.lst vs)) (hs : StdsAt H (s0 :: ss) vs) : ∀ {sts : List Std} {us : List V}, (∀ st ∈ sts, st.paper ≠ []) -> StdsAt H sts us -> StdsAt (upd H qs o) sts us
  | [], _, _, h => h
  | st :: sts, us, hp, h => by
    obtain ⟨v,r,rfl,a,b⟩:=h
    exact ⟨v, r, rfl, Zln hq hs a (hp _ (by simp)), StdsAt.wr hq hs (fun x hx => hp x (by simp[hx])) b⟩
structure LX (H:Hp) (qw:Addr) (xs:List V) (fl:List (D×V)) (qp:Addr) (vp:List V) (tl:Std) (vt:V) (qs:Addr) (sts:List Std) (H':Hp):Prop where
 sm:Same H H'
 lw:H' qw=some (.lst xs)
 rw:Reps H' (w50.map fmD) xs
 fx:Fx H' fl
 lp:H' qp=some (.lst vp)
 rp:Reps H' (pap50.map sfDD) vp
 st:StdAt H' tl vt
 vs:∃ vs,H' qs=some (.lst vs)/\StdsAt H' sts vs
section
variable {H H' H2:Hp} {qw:Addr} {xs:List V} {fl:List (D×V)} {qp:Addr} {vp:List V} {tl:Std} {vt:V} {qs:Addr} {sts:List Std} {s0:Std} {ss:List Std}
theorem LX.mono (h:LX H qw xs fl qp vp tl vt qs sts H') (s:Same H' H2):LX H qw xs fl qp vp tl vt qs sts H2:=by
 obtain ⟨a,b,c,d,e,f,g,vs,h1,h2⟩:=h
 exact ⟨a.trans s,s _ _ b,c.mono s.ts,d.mono s,s _ _ e,f.mono s.ts,g.mono s,vs,s _ _ h1,h2.mono s⟩
theorem LX.wr {sts':List Std} {vs us:List V} (h:LX H qw xs fl qp vp tl vt qs (s0::ss) H') (hn:H qs=none) (n1:qw≠qs) (n2:qp≠qs) (ht:tl.paper≠[]) (hq:H' qs=some (.lst vs)) (hs:StdsAt H' (s0::ss) vs) (hp:∀ st∈sts',st.paper≠[]) (hu:StdsAt H' sts' us):LX H qw xs fl qp vp tl vt qs sts' (upd H' qs (.lst us)):=by
 have ts:TSame H' (upd H' qs (.lst us)):=TSame.wr fun xs e=>by rw[hq] at e;cases e
 exact ⟨wrN50 h.sm hn,by rw[Zax n1];exact h.lw,h.rw.mono ts,fun p hp=>(h.fx p hp).mono ts,by rw[Zax n2];exact h.lp,h.rp.mono ts,Zln hq hs h.st ht,us,Zag,StdsAt.wr hq hs hp hu⟩
theorem LX.set {R:Hp->Prop} {z:Std} {u:V} {i:Nat} (h:LX H qw xs fl qp vp tl vt qs (s0::ss) H') (hn:H qs=none) (n1:qw≠qs) (n2:qp≠qs) (ht:tl.paper≠[]) (hi:ixN (s0::ss).length (i:Int)=some i) (hz:StdAt H' z u) (hp:∀ st∈(s0::ss).set i z,st.paper≠[]) (k:∀ H2,LX H qw xs fl qp vp tl vt qs ((s0::ss).set i z) H2->R H2):Zco (.ref qs) (.int i) u H' R:=by
 obtain ⟨vs,hq,hs⟩:=h.vs
 exact Zbh hq (by rw[<-hs.len];exact hi) (k _ (h.wr hn n1 n2 ht hq hs hp (hs.set hz i)))
end
theorem Zix {H:Hp} {zs:List V} {a b c:D} (r:Reps H [a,b,c] zs):∃ x0 x1 x2,zs=[x0,x1,x2]/\Rep H a x0/\Rep H b x1/\Rep H c x2:=by
 obtain ⟨x0,zr,rfl,r0,rz⟩:=Zaj r
 obtain ⟨x1,zr,rfl,r1,rz1⟩:=Zaj rz
 obtain ⟨x2,zr,rfl,r2,rz2⟩:=Zaj rz1
 obtain rfl:=ZaD rz2
 exact ⟨x0,x1,x2,rfl,r0,r1,r2⟩
end
end My
end
section
namespace My
open PySem L2
section
variable {P:Program} {w:World} {K:W.Frag} {mg:Str->Option Value} {base:Heap}
variable {C CC:Addr}
local macro_rules | `(tactic| walk_at"ddy") => `(tactic| repeat (first | exact ZgS | exact Zin | exact ZgQ | exact Zim | exact Zfb rfl ZaR | exact ZdX (n := 3) (by assumption) rfl rfl | exact ZdX (n := 4) (by assumption) rfl rfl | exact ZdX (n := 5) (by assumption) rfl rfl | exact ZdX (n := 6) (by assumption) rfl rfl | exact ZdX (n := 7) (by assumption) rfl rfl | exact ZdX (n := 8) (by assumption) rfl rfl | exact ZdX (n := 9) (by assumption) rfl rfl | exact ZeP rfl (by assumption) (by assumption) | exact ZfA (n := 0) (by assumption) rfl (by assumption) rfl rfl | exact ZfA (n := 1) (by assumption) rfl (by assumption) rfl rfl | exact ZfA (n := 2) (by assumption) rfl (by assumption) rfl rfl | refine ZdY ?_ ?_ | refine ZgP ?_))
theorem Zcf {r:Int} {f:List Fm} {d:Dd} {m:Int}:(Std.mk m [((1:Int),r,f)] d).paper≠[]:=fun z=>by cases z
theorem Ze3 {d:Dd} {m:Int}:(Std.mk m pap50 d).paper≠[]:=fun z=>by cases z
def C50 (w:Nat):Std:=if w=5 then stL 2 last50 else if w=4 then ⟨3,pap50,.leave⟩ else stT w
theorem Zid {D:Ends} {σ:St} {H H':Hp} {w:Nat} {held:Int} {qw:Addr} {x0 x1 x2 v3 v4 v5 v6 v7 v8 v9 vd vt:V} {qp:Addr} {vp:List V} {qs:Addr} {c10:Option V}
  (hσ:σ=[some (.int w),some (.int held),some (.ref qw),some v3,some v4,some v5,some v6,some v7,some (.ref qp),some v8,c10,some vd,some vt,some (.ref qs)])
  (hw:w<=5) (hn:H qs=none) (n1:qw≠qs) (n2:qp≠qs)
  (lx:LX H qw [x0,x1,x2] [(fmD (ofW 0),x0),(fmD (ofW 1),x1),(fmD (ofW 2),x2),(fmD ZbG,v3),(fmD Za6,v4),(fmD Zes,v5),(fmD (Zcd w),v6),(.tup (last50.map fmD),v7),(Edg.d ZdL,v8),(Edg.d ⟨5,[Za6,ofW 1,ofW 2],2⟩,v9)] qp vp (stT w) vt qs (if w=3 then [stA w,stL 5 last50,stC w held,stL 3 w50,stT w] else [stA w,stL 5 last50,C50 w,stL 3 w50]) H')
  (k:∀ q ys H2,Same H H2->H q=none->LaneAt H2 (Za7 w held) q ys->D.rt (.ref q) H2):(tRet (tOp rCat (tVar 13) (tLst (Zae (tTup (Zae (tC (.int 3)) (Zae (tLst (Zae (tTup (Zae (tC (.int 1)) (Zae (tC (.int 4)) (Zae (tCB (ZdJ K) (Zae (tVar 2) tNil)) tNil)))) tNil)) (Zae (tTup (Zae (tC (.str "leave")) tNil)) tNil)))) tNil)))) D σ H':=by
 subst hσ
 obtain ⟨sm,l_w,rw3,fx,l_p,r_p,st,vs,l_s,r_s⟩:=lx
 refine Zh2 ?_
 refine ZfM ⟨_,rfl,?_⟩
 refine ZlG (sts:=[stL 4 w50]) ?_ fun q2 us H2 s2 _ l2 r2=>?_
 ·refine Zdl (Zfx ?_ ?_) Zh3
  ·walk_at"ddy"
  ·walk_at"ddy"
 have e1:=r_s.len
 have e2:=r2.len
 have hle:(if w=3 then [stA w,stL 5 last50,stC w held,stL 3 w50,stT w] else [stA w,stL 5 last50,C50 w,stL 3 w50]).length<=5:=by split <;> exact Nat.le_of_ble_eq_true rfl
 refine ZeE (s2 _ _ l_s) l2 (Za2 (by rw[<-e1,<- e2];show _+1<=_;lia)) fun q3 hq3=>?_
 have s3:=Same.new (o:=.lst (vs++us)) hq3
 have fin:=((r_s.mono s2).mono s3)
 have r3:=StdsAt.app (r2.mono s3) fin
 have el:(if w=3 then [stA w,stL 5 last50,stC w held,stL 3 w50,stT w] else [stA w,stL 5 last50,C50 w,stL 3 w50])++[stL 4 w50]=Za7 w held:=by
  unfold Za7
  by_cases h3:w=3
  ·rw[if_pos h3,if_pos h3];rfl
  ·rw[if_neg h3,if_neg h3]
   have:C50 w=stC w held:=by unfold C50 stC stL;rw[if_neg h3]
   rw[this]
   rfl
 rw[el] at r3
 exact k q3 _ _ ((sm.trans s2).trans s3) ((sm.trans s2).free hq3) ⟨Zag,r3.len,r3.get⟩
theorem Zie {D:Ends} {σ:St} {H H':Hp} {w:Nat} {held:Int} {qw:Addr} {x0 x1 x2 v3 v4 v5 v6 v7 v8 v9 vd vt:V} {qp:Addr} {vp:List V} {qs:Addr} {c10:Option V}
  (hσ:σ=[some (.int w),some (.int held),some (.ref qw),some v3,some v4,some v5,some v6,some v7,some (.ref qp),some v8,c10,some vd,some vt,some (.ref qs)])
  (hw:w<=5) (hn:H qs=none) (n1:qw≠qs) (n2:qp≠qs)
  (lx:LX H qw [x0,x1,x2] [(fmD (ofW 0),x0),(fmD (ofW 1),x1),(fmD (ofW 2),x2),(fmD ZbG,v3),(fmD Za6,v4),(fmD Zes,v5),(fmD (Zcd w),v6),(.tup (last50.map fmD),v7),(Edg.d ZdL,v8),(Edg.d ⟨5,[Za6,ofW 1,ofW 2],2⟩,v9)] qp vp (stT w) vt qs [stA w,stL 5 last50,C50 w,stL 3 w50] H')
  (k:∀ q ys H2,Same H H2->H q=none->LaneAt H2 (Za7 w held) q ys->D.rt (.ref q) H2):(tSeq (tIfS (ZaW (tOp rEq (tVar 0) (tC (.int 3)))) (tSeq (ZdI (tBM K "list" ZcK (tVar 13) (Zae (tVar 12) tNil))) (tAsg (tTup (Zae (tC (.int 3)) (Zae (tVar 8) (Zae (tTup (Zae (tC (.str "hold")) (Zae (tC (.int 1)) (Zae (tVar 1) (Zae (tTup (Zae (tC (.int 0)) (Zae (tTup (Zae (tOp (rIxA K) (tVar 2) (tC (.int 0))) (Zae (tTup (Zae (tVar 1) (Zae (tTup tNil) tNil))) (Zae (tOp (rIxA K) (tVar 2) (tC (.int 2))) tNil)))) (Zae (tC (.int 4)) tNil)))) tNil))))) tNil)))) (gSub (tVar 13) (tC (.int 2)) Zco))) ZbH) (tRet (tOp rCat (tVar 13) (tLst (Zae (tTup (Zae (tC (.int 3)) (Zae (tLst (Zae (tTup (Zae (tC (.int 1)) (Zae (tC (.int 4)) (Zae (tCB (ZdJ K) (Zae (tVar 2) tNil)) tNil)))) tNil)) (Zae (tTup (Zae (tC (.str "leave")) tNil)) tNil)))) tNil))))) D σ H':=by
 subst hσ
 refine Zbo ?_
 walk_at"rdy"
 refine Zbr (fun h3=>?_) (fun h3=>?_)
 ·have h3:w=3:=by lia
  have ec:C50 w=stT w:=by subst h3;rfl
  rw[ec] at lx
  obtain ⟨vs,l_s,r_s⟩:=lx.vs
  walk_at"rdy"
  refine ⟨.inl ⟨rfl,_,SqL.of l_s⟩,?_⟩
  walk_at"rdy"
  have e1:=r_s.len
  refine ZbM l_s (Zgs (by rw[<-e1];exact Nat.le_of_ble_eq_true rfl)) ?_
  have lx2:LX H qw [x0,x1,x2] _ qp vp (stT w) vt qs ([stA w,stL 5 last50,stT w,stL 3 w50]++[stT w]) _:=lx.wr hn n1 n2 Ze3 l_s r_s (us:=vs++[vt]) (fun z hz=>by
   simp only[cons_append,nil_append,mem_cons,not_mem_nil,or_false] at hz
   rcases hz with rfl|rfl|rfl|rfl|rfl
   ·exact Zcf
   ·exact Zcf
   ·exact Ze3
   ·exact Zcf
   ·exact Ze3) (StdsAt.app (zs:=[stT w]) (us:=[vt]) ⟨vt,[],rfl,lx.st,rfl⟩ r_s)
  generalize upd H' qs (.lst (vs++[vt]))=H2 at lx2
  dsimp only
  refine Zbp ?_
  obtain ⟨sm,l_w,rw3,fx,l_p,r_p,st,_⟩:=id lx2
  refine PS.go (st:=⟨3,pap50,.hold 1 held ⟨0,[ofW 0,(held,[]),ofW 2],4⟩⟩) (Zjw rfl l_p r_p ?_) fun vh H3 s3 sh=>?_
  ·walk_at"ddy"
  refine ZdP ⟨_,rfl,?_⟩
  refine (lx2.mono s3).set (i:=2) hn n1 n2 Ze3 rfl sh ?_ fun H4 lx4=>?_
  ·intro z hz
   have hz:z∈[stA w,stL 5 last50,⟨3,pap50,.hold 1 held ⟨0,[ofW 0,(held,[]),ofW 2],4⟩⟩,stL 3 w50,stT w]:=hz
   simp only[mem_cons,not_mem_nil,or_false] at hz
   rcases hz with rfl|rfl|rfl|rfl|rfl
   ·exact Zcf
   ·exact Zcf
   ·exact Ze3
   ·exact Zcf
   ·exact Ze3
  refine Zid (x0:=x0) (x1:=x1) (x2:=x2) (v9:=v9) (vp:=vp) rfl hw hn n1 n2 ?_ k
  rw[if_pos h3]
  have:stC w held=⟨3,pap50,.hold 1 held ⟨0,[ofW 0,(held,[]),ofW 2],4⟩⟩:=by subst h3;rfl
  rw[this]
  exact lx4
 ·refine Za5 ?_
  refine Zid (x0:=x0) (x1:=x1) (x2:=x2) (v9:=v9) (vp:=vp) rfl hw hn n1 n2 ?_ k
  rw[if_neg (by lia)]
  exact lx
theorem Zif {D:Ends} {σ:St} {H H':Hp} {w:Nat} {held:Int} {qw:Addr} {x0 x1 x2 v3 v4 v5 v6 v7 v8 v9 vd vt:V} {qp:Addr} {vp:List V} {qs:Addr}
  (hσ:σ=[some (.int w),some (.int held),some (.ref qw),some v3,some v4,some v5,some v6,some v7,some (.ref qp),some v8,some v9,some vd,some vt,some (.ref qs)])
  (hw:w<=5) (hn:H qs=none) (n1:qw≠qs) (n2:qp≠qs)
  (lx:LX H qw [x0,x1,x2] [(fmD (ofW 0),x0),(fmD (ofW 1),x1),(fmD (ofW 2),x2),(fmD ZbG,v3),(fmD Za6,v4),(fmD Zes,v5),(fmD (Zcd w),v6),(.tup (last50.map fmD),v7),(Edg.d ZdL,v8),(Edg.d ⟨5,[Za6,ofW 1,ofW 2],2⟩,v9)] qp vp (stT w) vt qs [⟨3,[(1,0,w50)],.test ZdL ⟨5,[Za6,ofW 1,ofW 2],2⟩⟩,stL 5 last50,(if 3 < w then ⟨3,pap50,.leave⟩ else stT w),stL 3 w50] H')
  (k:∀ q ys H2,Same H H2->H q=none->LaneAt H2 (Za7 w held) q ys->D.rt (.ref q) H2):(tSeq (tIfS (ZaW (tOp rEq (tVar 0) (tC (.int 5)))) (tSeq (tAsg (tTup (Zae (tC (.int 1)) (Zae (tTup (Zae (tVar 4) (Zae (tOp (rIxA K) (tVar 2) (tC (.int 1))) (Zae (tTup (Zae (tUn (rU fun i=>V.int (-i)) (tC (.int 1))) (Zae (tTup (Zae (tTup (Zae (tC (.int 1)) (Zae (tC (.int 2)) tNil))) tNil)) tNil))) tNil)))) (Zae (tC (.int 2)) tNil)))) (ZaI 10)) (tSeq (tAsg (tTup (Zae (tC (.int 3)) (Zae (tLst (Zae (tTup (Zae (tC (.int 1)) (Zae (tC (.int 0)) (Zae (tCB (ZdJ K) (Zae (tVar 2) tNil)) tNil)))) tNil)) (Zae (tTup (Zae (tC (.str "test")) (Zae (tVar 9) (Zae (tVar 10) tNil)))) tNil)))) (gSub (tVar 13) (tC (.int 0)) Zco)) (tAsg (tTup (Zae (tC (.int 3)) (Zae (tLst (Zae (tTup (Zae (tC (.int 1)) (Zae (tC (.int 2)) (Zae (tVar 7) tNil)))) tNil)) (Zae (tTup (Zae (tC (.str "leave")) tNil)) tNil)))) (gSub (tVar 13) (tC (.int 2)) Zco)))) ZbH) (tSeq (tIfS (ZaW (tOp rEq (tVar 0) (tC (.int 3)))) (tSeq (ZdI (tBM K "list" ZcK (tVar 13) (Zae (tVar 12) tNil))) (tAsg (tTup (Zae (tC (.int 3)) (Zae (tVar 8) (Zae (tTup (Zae (tC (.str "hold")) (Zae (tC (.int 1)) (Zae (tVar 1) (Zae (tTup (Zae (tC (.int 0)) (Zae (tTup (Zae (tOp (rIxA K) (tVar 2) (tC (.int 0))) (Zae (tTup (Zae (tVar 1) (Zae (tTup tNil) tNil))) (Zae (tOp (rIxA K) (tVar 2) (tC (.int 2))) tNil)))) (Zae (tC (.int 4)) tNil)))) tNil))))) tNil)))) (gSub (tVar 13) (tC (.int 2)) Zco))) ZbH) (tRet (tOp rCat (tVar 13) (tLst (Zae (tTup (Zae (tC (.int 3)) (Zae (tLst (Zae (tTup (Zae (tC (.int 1)) (Zae (tC (.int 4)) (Zae (tCB (ZdJ K) (Zae (tVar 2) tNil)) tNil)))) tNil)) (Zae (tTup (Zae (tC (.str "leave")) tNil)) tNil)))) tNil)))))) D σ H':=by
 subst hσ
 refine Zbo ?_
 walk_at"rdy"
 refine Zbr (fun h5=>?_) (fun h5=>?_)
 ·have h5:w=5:=by lia
  rw[if_pos (by lia)] at lx
  refine Zbo (Zbp ?_)
  obtain ⟨sm,l_w,rw3,fx,l_p,r_p,st,_⟩:=id lx
  refine DT.go (d:=Edg.d ⟨1,[Za6,ofW 1,(-1,[(1,2)])],2⟩) ?_ fun v10 H2 s2 r2=>?_
  ·walk_at"ddy"
  have lx2:=lx.mono s2
  replace l_w:=s2 _ _ l_w
  replace rw3:=rw3.mono s2.ts
  replace fx:=(fx.mono s2).add r2
  refine ZaC ?_
  dsimp only
  refine Zbo (Zbp ?_)
  refine PS.go (st:=⟨3,[(1,0,w50)],.test ZdL ⟨1,[Za6,ofW 1,(-1,[(1,2)])],2⟩⟩) (Zfx ?_ ?_) fun va H3 s3 sa=>?_
  ·walk_at"ddy"
  ·refine ZgP (ZdY ZgQ (ZdY ?_ (ZdY ?_ ZgS)))
   ·walk_at"ddy"
   ·exact ZdX (n:=10) fx rfl rfl
  refine ZdP ⟨_,rfl,?_⟩
  refine (lx2.mono s3).set (i:=0) hn n1 n2 Ze3 rfl sa ?_ fun H4 lx4=>?_
  ·intro z hz
   simp only[set_cons_zero,mem_cons,not_mem_nil,or_false] at hz
   rcases hz with rfl|rfl|rfl|rfl
   ·exact Zcf
   ·exact Zcf
   ·exact Ze3
   ·exact Zcf
  dsimp only
  refine Zbp ?_
  obtain ⟨_,_,_,fx4,_⟩:=id lx4
  refine PS.go (st:=stL 2 last50) (Zfx ?_ ?_) fun vc H5 s5 sc=>?_
  ·walk_at"ddy"
  ·walk_at"ddy"
  refine ZdP ⟨_,rfl,?_⟩
  refine (lx4.mono s5).set (i:=2) hn n1 n2 Ze3 rfl sc ?_ fun H6 lx6=>?_
  ·intro z hz
   simp only[set_cons_zero,set_cons_succ,mem_cons,not_mem_nil,or_false] at hz
   rcases hz with rfl|rfl|rfl|rfl
   ·exact Zcf
   ·exact Zcf
   ·exact Zcf
   ·exact Zcf
  refine Zie (x0:=x0) (x1:=x1) (x2:=x2) (v9:=v9) (vp:=vp) rfl hw hn n1 n2 ?_ k
  have e1:stA w=⟨3,[(1,0,w50)],.test ZdL ⟨1,[Za6,ofW 1,(-1,[(1,2)])],2⟩⟩:=by subst h5;rfl
  have e2:C50 w=stL 2 last50:=by subst h5;rfl
  rw[e1,e2]
  exact lx6
 ·refine Za5 ?_
  have h5:w≠5:=by lia
  refine Zie (x0:=x0) (x1:=x1) (x2:=x2) (v9:=v9) (vp:=vp) rfl hw hn n1 n2 ?_ k
  have e1:stA w=⟨3,[(1,0,w50)],.test ZdL ⟨5,[Za6,ofW 1,ofW 2],2⟩⟩:=by unfold stA no50;rw[if_neg h5]
  have e2:C50 w=(if 3 < w then ⟨3,pap50,.leave⟩ else stT w):=by
   unfold C50
   rw[if_neg h5]
   by_cases h4:w=4
   ·rw[if_pos h4,if_pos (by lia)]
   ·rw[if_neg h4,if_neg (by lia)]
  rw[e1,e2]
  exact lx
theorem ZkP {D:Ends} {σ:St} {H H':Hp} {w:Nat} {held:Int} {qw:Addr} {x0 x1 x2 v3 v4 v5 v6 v7 v8 v9 vd vt:V} {qp:Addr} {vp:List V} {qs:Addr}
  (hσ:σ=[some (.int w),some (.int held),some (.ref qw),some v3,some v4,some v5,some v6,some v7,some (.ref qp),some v8,some v9,some vd,some vt,some (.ref qs)])
  (hw:w<=5) (hn:H qs=none) (n1:qw≠qs) (n2:qp≠qs)
  (lx:LX H qw [x0,x1,x2] [(fmD (ofW 0),x0),(fmD (ofW 1),x1),(fmD (ofW 2),x2),(fmD ZbG,v3),(fmD Za6,v4),(fmD Zes,v5),(fmD (Zcd w),v6),(.tup (last50.map fmD),v7),(Edg.d ZdL,v8),(Edg.d ⟨5,[Za6,ofW 1,ofW 2],2⟩,v9)] qp vp (stT w) vt qs [⟨3,[(1,0,w50)],.test ZdL ⟨5,[Za6,ofW 1,ofW 2],2⟩⟩,stL 5 last50,stT w,stL 3 w50] H')
  (k:∀ q ys H2,Same H H2->H q=none->LaneAt H2 (Za7 w held) q ys->D.rt (.ref q) H2):(tSeq (tIfS (ZaW (tOp (rI0 fun i j=>.bl (decide (j < i))) (tVar 0) (tC (.int 3)))) (tAsg (tTup (Zae (tC (.int 3)) (Zae (tVar 8) (Zae (tTup (Zae (tC (.str "leave")) tNil)) tNil)))) (gSub (tVar 13) (tC (.int 2)) Zco)) ZbH) (tSeq (tIfS (ZaW (tOp rEq (tVar 0) (tC (.int 5)))) (tSeq (tAsg (tTup (Zae (tC (.int 1)) (Zae (tTup (Zae (tVar 4) (Zae (tOp (rIxA K) (tVar 2) (tC (.int 1))) (Zae (tTup (Zae (tUn (rU fun i=>V.int (-i)) (tC (.int 1))) (Zae (tTup (Zae (tTup (Zae (tC (.int 1)) (Zae (tC (.int 2)) tNil))) tNil)) tNil))) tNil)))) (Zae (tC (.int 2)) tNil)))) (ZaI 10)) (tSeq (tAsg (tTup (Zae (tC (.int 3)) (Zae (tLst (Zae (tTup (Zae (tC (.int 1)) (Zae (tC (.int 0)) (Zae (tCB (ZdJ K) (Zae (tVar 2) tNil)) tNil)))) tNil)) (Zae (tTup (Zae (tC (.str "test")) (Zae (tVar 9) (Zae (tVar 10) tNil)))) tNil)))) (gSub (tVar 13) (tC (.int 0)) Zco)) (tAsg (tTup (Zae (tC (.int 3)) (Zae (tLst (Zae (tTup (Zae (tC (.int 1)) (Zae (tC (.int 2)) (Zae (tVar 7) tNil)))) tNil)) (Zae (tTup (Zae (tC (.str "leave")) tNil)) tNil)))) (gSub (tVar 13) (tC (.int 2)) Zco)))) ZbH) (tSeq (tIfS (ZaW (tOp rEq (tVar 0) (tC (.int 3)))) (tSeq (ZdI (tBM K "list" ZcK (tVar 13) (Zae (tVar 12) tNil))) (tAsg (tTup (Zae (tC (.int 3)) (Zae (tVar 8) (Zae (tTup (Zae (tC (.str "hold")) (Zae (tC (.int 1)) (Zae (tVar 1) (Zae (tTup (Zae (tC (.int 0)) (Zae (tTup (Zae (tOp (rIxA K) (tVar 2) (tC (.int 0))) (Zae (tTup (Zae (tVar 1) (Zae (tTup tNil) tNil))) (Zae (tOp (rIxA K) (tVar 2) (tC (.int 2))) tNil)))) (Zae (tC (.int 4)) tNil)))) tNil))))) tNil)))) (gSub (tVar 13) (tC (.int 2)) Zco))) ZbH) (tRet (tOp rCat (tVar 13) (tLst (Zae (tTup (Zae (tC (.int 3)) (Zae (tLst (Zae (tTup (Zae (tC (.int 1)) (Zae (tC (.int 4)) (Zae (tCB (ZdJ K) (Zae (tVar 2) tNil)) tNil)))) tNil)) (Zae (tTup (Zae (tC (.str "leave")) tNil)) tNil)))) tNil))))))) D σ H':=by
 subst hσ
 refine Zbo ?_
 walk_at"rdy"
 refine Zbr (fun h3=>?_) (fun h3=>?_)
 ·refine Zbp ?_
  obtain ⟨sm,l_w,rw3,fx,l_p,r_p,st,_⟩:=id lx
  refine PS.go (st:=⟨3,pap50,.leave⟩) (Zjw rfl l_p r_p ?_) fun vc H2 s2 sc=>?_
  ·walk_at"ddy"
  refine ZdP ⟨_,rfl,?_⟩
  refine (lx.mono s2).set (i:=2) hn n1 n2 Ze3 rfl sc ?_ fun H4 lx4=>?_
  ·intro z hz
   simp only[set_cons_zero,set_cons_succ,mem_cons,not_mem_nil,or_false] at hz
   rcases hz with rfl|rfl|rfl|rfl
   ·exact Zcf
   ·exact Zcf
   ·exact Ze3
   ·exact Zcf
  refine Zif (x0:=x0) (x1:=x1) (x2:=x2) (v9:=v9) (vp:=vp) rfl hw hn n1 n2 ?_ k
  rw[if_pos (by lia)]
  exact lx4
 ·refine Za5 ?_
  refine Zif (x0:=x0) (x1:=x1) (x2:=x2) (v9:=v9) (vp:=vp) rfl hw hn n1 n2 ?_ k
  rw[if_neg (by lia)]
  exact lx
end
end My
end
section
namespace My
open PySem L2
section
variable {P:Program} {w:World} {K:W.Frag} {mg:Str->Option Value} {base:Heap}
variable {C CC:Addr}
local macro_rules | `(tactic| walk_at"ddy") => `(tactic| repeat (first | exact ZgS | exact Zin | exact ZgQ | exact Zim | exact Zfb rfl ZaR | exact ZdX (n := 3) (by assumption) rfl rfl | exact ZdX (n := 4) (by assumption) rfl rfl | exact ZdX (n := 5) (by assumption) rfl rfl | exact ZdX (n := 6) (by assumption) rfl rfl | exact ZdX (n := 7) (by assumption) rfl rfl | exact ZdX (n := 8) (by assumption) rfl rfl | exact ZdX (n := 9) (by assumption) rfl rfl | exact ZeP rfl (by assumption) (by assumption) | exact ZfA (n := 0) (by assumption) rfl (by assumption) rfl rfl | exact ZfA (n := 1) (by assumption) rfl (by assumption) rfl rfl | exact ZfA (n := 2) (by assumption) rfl (by assumption) rfl rfl | refine ZdY ?_ ?_ | refine ZgP ?_))
inductive Pr_lane50 (x y:V) (H:Hp) (Q:VK):Prop
 | mk (w:Nat) (held:Int) (_:x=.int w) (_:y=.int held) (_:w<=5) (_:∀ q ys H',Same H H'->H q=none->LaneAt H' (Za7 w held) q ys->Q (.ref q) H'):Pr_lane50 x y H Q
def Zd7:Sp:=sp2 (Pr_lane50)
theorem sc__law_lane:FnScope ["way","held","word","both","fewer","twice","given","last","paper","yes","no","door","tells","stands"] ["way","held"] (Zan Zc3):=by walk_at"fs"
theorem ZhQ (B:Blt mg) (T__law_lane:TopFn K mg "_law_lane" Zc3 ["way","held"]):Callee P w K mg base "_law_lane" 1 ["way","held"] Zd7:=by
 refine T__law_lane.ok2 sc__law_lane fun f cdv A outer s H v1 v2 Q E hr hh=>?_
 have nd:=sc__law_lane.nd
 obtain ⟨w,held,rfl,rfl,hw,k⟩:=hh
 refine' ZaB [some (.int w),some (.int held),none,none,none,none,none,none,none,none,none,none,none,none] rfl ?hb ?hg
 case' hb=>refine' Zaf ?bab ?bac
 case' bab=>refine' Zl6 (i:=2) (LN:=["w"]) (FN:=[]) (fr:=[]) ?bad ?bae ?baf ?bag ?bah ?bai ?baj ?bak ?bal
 case bad=>exact rfl
 case bae=>exact nd
 case baf=>exact rfl
 case bag=>exact rfl
 case bah=>exact (Zd0 (by rfl))
 case bai=>exact (Zdo rfl B.b_range (Zab Zaa Zad))
 case' baj=>intro cl C fp pins s H
 case baj=>exact (ZaA (i:=0) (show ((["w"]:List Str)++([]:List Str)).Nodup by decide +kernel) rfl (Or.inl rfl))
 case' bak=>intro cl C fp pins s H
 case bak=>exact ZbR
 case' bal=>intro cl C fp pins s H
 case bal=>exact (Zap (Zab Zaa (Zam (Zap (Zam (Zap (Zab Zaa (Zac (pv 0) Zad))) Zad)) Zad)))
 case' bac=>refine' Zaf ?bam ?ban
 case' bam=>refine' ZcL (i:=3) ?bao ?bap ?baq ?bar
 case bao=>exact nd
 case bap=>exact rfl
 case baq=>exact (Or.inl rfl)
 case' bar=>refine' Zap ?bas
 case' bas=>refine' Zab ?bat ?bau
 case bat=>exact Zaa
 case' bau=>refine' Zam ?bav ?baw
 case bav=>exact (Zap (Zam (Zap (Zab Zaa (Zab Zaa Zad))) (Zam (Zap (Zab Zaa (Zab Zaa Zad))) Zad)))
 case baw=>exact Zad
 case' ban=>refine' Zaf ?bax ?bay
 case' bax=>refine' ZcL (i:=4) ?baz ?bba ?bbb ?bbc
 case baz=>exact nd
 case bba=>exact rfl
 case bbb=>exact (Or.inl rfl)
 case' bbc=>refine' Zap ?bbd
 case' bbd=>refine' Zab ?bbe ?bbf
 case bbe=>exact Zaa
 case' bbf=>refine' Zam ?bbg ?bbh
 case' bbg=>refine' Zap ?bbi
 case bbi=>exact (Zam (Zap (Zab Zaa (Zab Zaa Zad))) (Zam (Zap (ZdE (Zcp ZbB Zaa) (Zab Zaa Zad))) Zad))
 case bbh=>exact Zad
 case' bay=>refine' Zaf ?bbj ?bbk
 case' bbj=>refine' ZcL (i:=5) ?bbl ?bbm ?bbn ?bbo
 case bbl=>exact nd
 case bbm=>exact rfl
 case bbn=>exact (Or.inl rfl)
 case' bbo=>refine' Zap ?bbp
 case' bbp=>refine' Zab ?bbq ?bbr
 case bbq=>exact Zaa
 case' bbr=>refine' Zam ?bbs ?bbt
 case' bbs=>refine' Zap ?bbu
 case' bbu=>refine' Zam ?bbv ?bbw
 case bbv=>exact (Zap (ZdE (Zcp ZbB Zaa) (Zab Zaa Zad)))
 case bbw=>exact (Zam (Zap (ZdE (Zcp ZbB Zaa) (Zab Zaa Zad))) Zad)
 case bbt=>exact Zad
 case' bbk=>refine' Zaf ?bbx ?bby
 case' bbx=>refine' Zbd (i:=6) ?bbz ?bca ?bcb ?bcc
 case bbz=>exact nd
 case bca=>exact rfl
 case bcb=>exact (Or.inl rfl)
 case bcc=>exact (Zai (k_ix (K:=K) rfl) (ZaH (Zac (pv 3) (Zac (pv 5) Zad))) (ZaN ZeF (pv 0) Zaa) (fun _ _=>rfl))
 case' bby=>refine' Zaf ?bcd ?bce
 case' bcd=>refine' ZcL (i:=7) ?bcf ?bcg ?bch ?bci
 case bcf=>exact nd
 case bcg=>exact rfl
 case bch=>exact (Or.inl rfl)
 case' bci=>refine' Zap ?bcj
 case' bcj=>refine' Zav ?bck ?bcl
 case bck=>exact (Zai (k_ix (K:=K) rfl) (pv 2) Zaa (fun _ _=>rfl))
 case' bcl=>refine' Zav ?bcm ?bcn
 case bcm=>exact (Zai (k_ix (K:=K) rfl) (pv 2) Zaa (fun _ _=>rfl))
 case bcn=>exact (Zam (Zap (Zab Zaa (Zam (Zap (Zam (Zap (Zab Zaa (Zab Zaa Zad))) Zad)) Zad))) Zad)
 case' bce=>refine' Zaf ?bco ?bcp
 case' bco=>refine' ZcM (i:=8) ?bcq ?bcr ?bcs ?bct
 case bcq=>exact nd
 case bcr=>exact rfl
 case bcs=>exact (Or.inl rfl)
 case' bct=>refine' ZaH ?bcu
 case' bcu=>refine' Zam ?bcv ?bcw
 case bcv=>exact (Zap (Zab Zaa (Zab Zaa (Za4 (Zbf (Zev (K:=K) rfl) (by rfl) B.b_tuple ZdG (Zac (pv 2) Zad)) Zad))))
 case' bcw=>refine' Zam ?bcx ?bcy
 case' bcx=>refine' Zap ?bcz
 case' bcz=>refine' Zab ?bda ?bdb
 case bda=>exact Zaa
 case bdb=>exact (Zab Zaa (Zam (Zap (Zac (pv 3) (Zav (Zai (k_ix (K:=K) rfl) (pv 2) Zaa (fun _ _=>rfl)) Zad))) Zad))
 case' bcy=>refine' Zam ?bdc ?bdd
 case' bdc=>refine' Zap ?bde
 case' bde=>refine' Zab ?bdf ?bdg
 case bdf=>exact Zaa
 case bdg=>exact (Zab Zaa (Zam (Zap (Zac (pv 3) (Zam (Zap (Zab Zaa (Zam (Zap Zad) Zad))) Zad))) Zad))
 case bdd=>exact (Zam (Zap (Zab Zaa (Zab Zaa (Zam (Zap (Zac (pv 3) Zad)) Zad)))) Zad)
 case' bcp=>refine' Zaf ?bdh ?bdi
 case' bdh=>refine' ZcL (i:=9) ?bdj ?bdk ?bdl ?bdm
 case bdj=>exact nd
 case bdk=>exact rfl
 case bdl=>exact (Or.inl rfl)
 case' bdm=>refine' Zap ?bdn
 case' bdn=>refine' Zab ?bdo ?bdp
 case bdo=>exact Zaa
 case' bdp=>refine' Zam ?bdq ?bdr
 case' bdq=>refine' Zap ?bds
 case' bds=>refine' Zav ?bdt ?bdu
 case bdt=>exact (Zai (k_ix (K:=K) rfl) (pv 2) Zaa (fun _ _=>rfl))
 case' bdu=>refine' Zav ?bdv ?bdw
 case bdv=>exact (Zai (k_ix (K:=K) rfl) (pv 2) Zaa (fun _ _=>rfl))
 case' bdw=>refine' Zam ?bdx ?bdy
 case bdx=>exact (Zap (ZdE (Zcp ZbB Zaa) (Zam (Zap (Zam (Zap (Zab Zaa (Zab Zaa Zad))) Zad)) Zad)))
 case bdy=>exact Zad
 case bdr=>exact (Zab Zaa Zad)
 case' bdi=>refine' Zaf ?bdz ?bea
 case' bdz=>refine' ZcL (i:=10) ?beb ?bec ?bed ?bee
 case beb=>exact nd
 case bec=>exact rfl
 case bed=>exact (Or.inl rfl)
 case' bee=>refine' Zap ?bef
 case' bef=>refine' Zab ?beg ?beh
 case beg=>exact Zaa
 case' beh=>refine' Zam ?bei ?bej
 case' bei=>refine' Zap ?bek
 case' bek=>refine' Zac ?bel ?bem
 case bel=>exact (pv 4)
 case bem=>exact (Zav (Zai (k_ix (K:=K) rfl) (pv 2) Zaa (fun _ _=>rfl)) (Zav (Zai (k_ix (K:=K) rfl) (pv 2) Zaa (fun _ _=>rfl)) Zad))
 case bej=>exact (Zab Zaa Zad)
 case' bea=>refine' Zaf ?ben ?beo
 case' ben=>refine' ZcL (i:=11) ?bep ?beq ?ber ?bes
 case bep=>exact nd
 case beq=>exact rfl
 case ber=>exact (Or.inl rfl)
 case' bes=>refine' Zap ?bet
 case' bet=>refine' Zab ?beu ?bev
 case beu=>exact Zaa
 case' bev=>refine' Zbs ?bew ?bex
 case' bew=>refine' ZaH ?bey
 case' bey=>refine' Zam ?bez ?bfa
 case bez=>exact (Zap (Zab Zaa (Zab Zaa (Za4 (Zbf (Zev (K:=K) rfl) (by rfl) B.b_tuple ZdG (Zac (pv 2) Zad)) Zad))))
 case bfa=>exact Zad
 case bex=>exact (Zam (Zap (Zab Zat (Zac (pv 9) (Zac (pv 10) Zad)))) Zad)
 case' beo=>refine' Zaf ?bfb ?bfc
 case' bfb=>refine' ZcL (i:=12) ?bfd ?bfe ?bff ?bfg
 case bfd=>exact nd
 case bfe=>exact rfl
 case bff=>exact (Or.inl rfl)
 case' bfg=>refine' Zap ?bfh
 case' bfh=>refine' Zab ?bfi ?bfj
 case bfi=>exact Zaa
 case' bfj=>refine' Zac ?bfk ?bfl
 case bfk=>exact (pv 8)
 case' bfl=>refine' Zam ?bfm ?bfn
 case' bfm=>refine' Zap ?bfo
 case' bfo=>refine' Zab ?bfp ?bfq
 case bfp=>exact Zat
 case' bfq=>refine' Zam ?bfr ?bfs
 case' bfr=>refine' Zap ?bft
 case' bft=>refine' Zab ?bfu ?bfv
 case bfu=>exact Zaa
 case' bfv=>refine' Zam ?bfw ?bfx
 case' bfw=>refine' Zap ?bfy
 case' bfy=>refine' Zav ?bfz ?bga
 case bfz=>exact (Zai (k_ix (K:=K) rfl) (pv 2) Zaa (fun _ _=>rfl))
 case bga=>exact (Zav (Zai (k_ix (K:=K) rfl) (pv 2) Zaa (fun _ _=>rfl)) (Zac (pv 6) Zad))
 case bfx=>exact (Zab Zaa Zad)
 case bfs=>exact Zad
 case bfn=>exact Zad
 case' bfc=>refine' Zaf ?bgb ?bgc
 case' bgb=>refine' ZcM (i:=13) ?bgd ?bge ?bgf ?bgg
 case bgd=>exact nd
 case bge=>exact rfl
 case bgf=>exact (Or.inl rfl)
 case' bgg=>refine' ZaH ?bgh
 case' bgh=>refine' Zac ?bgi ?bgj
 case bgi=>exact (pv 11)
 case' bgj=>refine' Zam ?bgk ?bgl
 case' bgk=>refine' Zap ?bgm
 case' bgm=>refine' Zab ?bgn ?bgo
 case bgn=>exact Zaa
 case' bgo=>refine' Zbs ?bgp ?bgq
 case bgp=>exact (ZaH (Zam (Zap (Zab Zaa (Zab Zaa (Zac (pv 7) Zad)))) Zad))
 case bgq=>exact (Zam (Zap (Zab Zat Zad)) Zad)
 case' bgl=>refine' Zac ?bgr ?bgs
 case bgr=>exact (pv 12)
 case' bgs=>refine' Zam ?bgt ?bgu
 case' bgt=>refine' Zap ?bgv
 case' bgv=>refine' Zab ?bgw ?bgx
 case bgw=>exact Zaa
 case' bgx=>refine' Zbs ?bgy ?bgz
 case' bgy=>refine' ZaH ?bha
 case' bha=>refine' Zam ?bhb ?bhc
 case bhb=>exact (Zap (Zab Zaa (Zab Zaa (Za4 (Zbf (Zev (K:=K) rfl) (by rfl) B.b_tuple ZdG (Zac (pv 2) Zad)) Zad))))
 case bhc=>exact Zad
 case bgz=>exact (Zam (Zap (Zab Zat Zad)) Zad)
 case bgu=>exact Zad
 case' bgc=>refine' Zaf ?bhd ?bhe
 case' bhd=>refine' ZaZ ?bhf ?bhg ?bhh
 case bhf=>exact (Zar Zmm (pv 0) Zaa (Zau _))
 case bhg=>exact (Zal (Za3 (Zap (Zab Zaa (Zac (pv 8) (Zam (Zap (Zab Zat Zad)) Zad)))) (Zbq (pv 13) Zaa ZaO)))
 case bhh=>exact ZaE
 case' bhe=>refine' Zaf ?bhi ?bhj
 case' bhi=>refine' ZaZ ?bhk ?bhl ?bhm
 case bhk=>exact (Zar ZaX (pv 0) Zaa (Zau _))
 case' bhl=>refine' Zaf ?bhn ?bho
 case' bhn=>refine' ZcL (i:=10) ?bhp ?bhq ?bhr ?bhs
 case bhp=>exact nd
 case bhq=>exact rfl
 case bhr=>exact (Or.inl rfl)
 case' bhs=>refine' Zap ?bht
 case' bht=>refine' Zab ?bhu ?bhv
 case bhu=>exact Zaa
 case' bhv=>refine' Zam ?bhw ?bhx
 case' bhw=>refine' Zap ?bhy
 case' bhy=>refine' Zac ?bhz ?bia
 case bhz=>exact (pv 4)
 case' bia=>refine' Zav ?bib ?bic
 case bib=>exact (Zai (k_ix (K:=K) rfl) (pv 2) Zaa (fun _ _=>rfl))
 case' bic=>refine' Zam ?bid ?bie
 case bid=>exact (Zap (ZdE (Zcp ZbB Zaa) (Zam (Zap (Zam (Zap (Zab Zaa (Zab Zaa Zad))) Zad)) Zad)))
 case bie=>exact Zad
 case bhx=>exact (Zab Zaa Zad)
 case' bho=>refine' Zaf ?big ?bih
 case' big=>refine' Za3 ?bii ?bij
 case' bii=>refine' Zap ?bik
 case' bik=>refine' Zab ?bil ?bim
 case bil=>exact Zaa
 case' bim=>refine' Zbs ?bin ?bio
 case' bin=>refine' ZaH ?bip
 case' bip=>refine' Zam ?biq ?bir
 case biq=>exact (Zap (Zab Zaa (Zab Zaa (Za4 (Zbf (Zev (K:=K) rfl) (by rfl) B.b_tuple ZdG (Zac (pv 2) Zad)) Zad))))
 case bir=>exact Zad
 case bio=>exact (Zam (Zap (Zab Zat (Zac (pv 9) (Zac (pv 10) Zad)))) Zad)
 case bij=>exact (Zbq (pv 13) Zaa ZaO)
 case' bih=>refine' Zal ?bis
 case' bis=>refine' Za3 ?bit ?biu
 case' bit=>refine' Zap ?biv
 case' biv=>refine' Zab ?biw ?bix
 case biw=>exact Zaa
 case' bix=>refine' Zbs ?biy ?biz
 case biy=>exact (ZaH (Zam (Zap (Zab Zaa (Zab Zaa (Zac (pv 7) Zad)))) Zad))
 case biz=>exact (Zam (Zap (Zab Zat Zad)) Zad)
 case biu=>exact (Zbq (pv 13) Zaa ZaO)
 case bhm=>exact ZaE
 case' bhj=>refine' Zaf ?bja ?bjb
 case' bja=>refine' ZaZ ?bjc ?bjd ?bje
 case bjc=>exact (Zar ZaX (pv 0) Zaa (Zau _))
 case' bjd=>refine' Zaf ?bjf ?bjg
 case bjf=>exact (Zbm (k_bm (K:=K) rfl PySem.F.plainAttrs_list PySem.F.slot_list_append PySem.F.type_list_append ZbN (pv 13) (Zac (pv 12) Zad)))
 case' bjg=>refine' Zal ?bjh
 case' bjh=>refine' Za3 ?bji ?bjj
 case' bji=>refine' Zap ?bjk
 case' bjk=>refine' Zab ?bjl ?bjm
 case bjl=>exact Zaa
 case' bjm=>refine' Zac ?bjn ?bjo
 case bjn=>exact (pv 8)
 case' bjo=>refine' Zam ?bjp ?bjq
 case' bjp=>refine' Zap ?bjr
 case' bjr=>refine' Zab ?bjs ?bjt
 case bjs=>exact Zat
 case' bjt=>refine' Zab ?bju ?bjv
 case bju=>exact Zaa
 case' bjv=>refine' Zac ?bjw ?bjx
 case bjw=>exact (pv 1)
 case' bjx=>refine' Zam ?bjy ?bjz
 case' bjy=>refine' Zap ?bka
 case' bka=>refine' Zab ?bkb ?bkc
 case bkb=>exact Zaa
 case' bkc=>refine' Zam ?bkd ?bke
 case' bkd=>refine' Zap ?bkf
 case' bkf=>refine' Zav ?bkg ?bkh
 case bkg=>exact (Zai (k_ix (K:=K) rfl) (pv 2) Zaa (fun _ _=>rfl))
 case bkh=>exact (Zam (Zap (Zac (pv 1) (Zam (Zap Zad) Zad))) (Zav (Zai (k_ix (K:=K) rfl) (pv 2) Zaa (fun _ _=>rfl)) Zad))
 case bke=>exact (Zab Zaa Zad)
 case bjz=>exact Zad
 case bjq=>exact Zad
 case bjj=>exact (Zbq (pv 13) Zaa ZaO)
 case bje=>exact ZaE
 case' bjb=>refine' Zal ?bki
 case' bki=>refine' Zay ?bkj
 case' bkj=>refine' ZaN ?bkk ?bkl ?bkm
 case bkk=>exact Zek
 case bkl=>exact (pv 13)
 case' bkm=>refine' ZaH ?bkn
 case' bkn=>refine' Zam ?bko ?bkp
 case' bko=>refine' Zap ?bkq
 case' bkq=>refine' Zab ?bkr ?bks
 case bkr=>exact Zaa
 case' bks=>refine' Zbs ?bkt ?bku
 case' bkt=>refine' ZaH ?bkv
 case' bkv=>refine' Zam ?bkw ?bkx
 case bkw=>exact (Zap (Zab Zaa (Zab Zaa (Za4 (Zbf (Zev (K:=K) rfl) (by rfl) B.b_tuple ZdG (Zac (pv 2) Zad)) Zad))))
 case bkx=>exact Zad
 case bku=>exact (Zam (Zap (Zab Zat Zad)) Zad)
 case bkp=>exact Zad
 walk_at"rdy"
 refine ZgH (by decide) (by decide) ?_
 refine ZeR (n:=3) (Za2 (by decide)) (fun i zs σ Hx=>An3 (∃ x1,σ=[x1]) (Same H Hx) (Reps Hx (((List.range i).map fun (w:Nat)=>ofW (w:Int)).map fmD) zs)) ⟨⟨none,rfl⟩,Same.refl _,ZaM⟩ ?_ ?_
 ·rintro i zs σ Hx hi hle hlt' ⟨⟨x1,rfl⟩,s1,rz⟩
  refine ZaC ?_
  refine ZeY ?_
  rw[if_pos rfl]
  refine DT.go (d:=fmD (ofW (0+i))) ?_ fun v H3 s3 r3=>?_
  ·walk_at"ddy"
  refine ⟨hlt',by simpa using hle,⟨_,rfl⟩,s1.trans s3,?_⟩
  rw[range_succ,map_append,map_append]
  refine (rz.mono s3.ts).append (Zas ?_ ZaM)
  rw[Int.zero_add] at r3
  exact r3
 rintro zs σ Hx hzl ⟨⟨x1,rfl⟩,s00,rz⟩ qw hqw
 have s0:=Same.new (o:=.lst zs) hqw
 have l_w:upd Hx qw (.lst zs) qw=some (.lst zs):=Zag
 have rw3:Reps (upd Hx qw (.lst zs)) (w50.map fmD) zs:=rz.mono s0.ts
 have sH:=s00.trans s0
 generalize upd Hx qw (.lst zs)=H0 at s0 l_w rw3 sH
 obtain ⟨x0,x1',x2,rfl,r_x0,r_x1,r_x2⟩:=Zix (a:=fmD (ofW 0)) (b:=fmD (ofW 1)) (c:=fmD (ofW 2)) rw3
 have fx:Fx H0 [(fmD (ofW 0),x0),(fmD (ofW 1),x1'),(fmD (ofW 2),x2)]:=fun p hp=>by
  simp only[mem_cons,not_mem_nil,or_false] at hp
  rcases hp with rfl|rfl|rfl
  ·exact r_x0
  ·exact r_x1
  ·exact r_x2
 refine ZaC ?_
 dsimp only
 refine Zbo (Zbp ?_)
 refine DT.go (d:=fmD ZbG) ?_ fun v1 H1 s1 r1=>?_
 ·walk_at"ddy"
 replace fx:=(fx.mono s1).add r1
 replace l_w:=s1 _ _ l_w
 replace rw3:=rw3.mono s1.ts
 replace sH:=sH.trans s1
 refine ZaC ?_
 dsimp only
 refine Zbo (Zbp ?_)
 refine DT.go (d:=fmD Za6) ?_ fun v2 H2 s2 r2=>?_
 ·walk_at"ddy"
 replace fx:=(fx.mono s2).add r2
 replace l_w:=s2 _ _ l_w
 replace rw3:=rw3.mono s2.ts
 replace sH:=sH.trans s2
 refine ZaC ?_
 dsimp only
 refine Zbo (Zbp ?_)
 refine DT.go (d:=fmD Zes) ?_ fun v3 H3 s3 r3=>?_
 ·walk_at"ddy"
 replace fx:=(fx.mono s3).add r3
 replace l_w:=s3 _ _ l_w
 replace rw3:=rw3.mono s3.ts
 replace sH:=sH.trans s3
 refine ZaC ?_
 dsimp only
 refine Zbo (Zbp ?_)
 refine DT.go (d:=fmD (Zcd w)) ?_ fun v4 H4 s4 r4=>?_
 ·exact Zk0 rfl rfl rfl (fx.n 3 rfl) (fx.n 5 rfl) (by unfold Zcd;split <;> rfl)
 replace fx:=(fx.mono s4).add r4
 replace l_w:=s4 _ _ l_w
 replace rw3:=rw3.mono s4.ts
 replace sH:=sH.trans s4
 refine ZaC ?_
 dsimp only
 refine Zbo (Zbp ?_)
 refine DT.go (d:=.tup (last50.map fmD)) ?_ fun v5 H5 s5 r5=>?_
 ·walk_at"ddy"
 replace fx:=(fx.mono s5).add r5
 replace l_w:=s5 _ _ l_w
 replace rw3:=rw3.mono s5.ts
 replace sH:=sH.trans s5
 refine ZaC ?_
 dsimp only
 refine Zbo (Zbp ?_)
 refine Zfc (ds:=pap50.map sfDD) ?_ fun qp vp H6 s6 np l_p r_p=>?_
 ·walk_at"ddy"
 replace fx:=fx.mono s6
 replace l_w:=s6 _ _ l_w
 replace rw3:=rw3.mono s6.ts
 replace sH:=sH.trans s6
 refine ZaC ?_
 dsimp only
 refine Zbo (Zbp ?_)
 refine DT.go (d:=Edg.d ZdL) ?_ fun v7 H7 s7 r7=>?_
 ·walk_at"ddy"
 replace fx:=(fx.mono s7).add r7
 replace l_w:=s7 _ _ l_w
 replace rw3:=rw3.mono s7.ts
 replace sH:=sH.trans s7
 replace l_p:=s7 _ _ l_p
 replace r_p:=r_p.mono s7.ts
 refine ZaC ?_
 dsimp only
 refine Zbo (Zbp ?_)
 refine DT.go (d:=Edg.d ⟨5,[Za6,ofW 1,ofW 2],2⟩) ?_ fun v8 H8 s8 r8=>?_
 ·walk_at"ddy"
 replace fx:=(fx.mono s8).add r8
 replace l_w:=s8 _ _ l_w
 replace rw3:=rw3.mono s8.ts
 replace sH:=sH.trans s8
 replace l_p:=s8 _ _ l_p
 replace r_p:=r_p.mono s8.ts
 refine ZaC ?_
 dsimp only
 refine Zbo (Zbp ?_)
 refine PS.go (st:=⟨3,[(1,0,w50)],.test ZdL ⟨5,[Za6,ofW 1,ofW 2],2⟩⟩) (Zfx ?_ ?_) fun vd H9 s9 sd=>?_
 ·walk_at"ddy"
 ·walk_at"ddy"
 replace fx:=fx.mono s9
 replace l_w:=s9 _ _ l_w
 replace rw3:=rw3.mono s9.ts
 replace sH:=sH.trans s9
 replace l_p:=s9 _ _ l_p
 replace r_p:=r_p.mono s9.ts
 refine ZaC ?_
 dsimp only
 refine Zbo (Zbp ?_)
 refine PS.go (st:=stT w) (Zjw rfl l_p r_p ?_) fun vt H10 s10 st=>?_
 ·walk_at"ddy"
 replace fx:=fx.mono s10
 replace l_w:=s10 _ _ l_w
 replace rw3:=rw3.mono s10.ts
 replace sH:=sH.trans s10
 replace l_p:=s10 _ _ l_p
 replace r_p:=r_p.mono s10.ts
 replace sd:=sd.mono s10
 refine ZaC ?_
 dsimp only
 refine Zbo (Zbp ?_)
 refine ZlG (sts:=[⟨3,[(1,0,w50)],.test ZdL ⟨5,[Za6,ofW 1,ofW 2],2⟩⟩,stL 5 last50,stT w,stL 3 w50]) ?_ fun qs vs H11 s11 ns l_s r_s=>?_
 ·refine Zdl (Zlu rfl sd) (Zdl (Zfx ?_ ?_) (Zdl (Zlu rfl st) (Zdl (Zfx ?_ ?_) Zh3)))
  ·walk_at"ddy"
  ·walk_at"ddy"
  ·walk_at"ddy"
  ·walk_at"ddy"
 have nqs:H qs=none:=sH.free ns
 have nw:qw≠qs:=fun z=>by rw[z,ns] at l_w;cases l_w
 have npq:qp≠qs:=fun z=>by rw[z,ns] at l_p;cases l_p
 replace fx:=fx.mono s11
 replace l_w:=s11 _ _ l_w
 replace rw3:=rw3.mono s11.ts
 replace sH:=sH.trans s11
 replace l_p:=s11 _ _ l_p
 replace r_p:=r_p.mono s11.ts
 replace sd:=sd.mono s11
 replace st:=st.mono s11
 refine ZaC ?_
 dsimp only
 have lx:LX H qw [x0,x1',x2] _ qp vp (stT w) vt qs _ _:=⟨sH,l_w,rw3,fx,l_p,r_p,st,vs,l_s,r_s⟩
 exact ZkP rfl hw nqs nw npq lx k
end
end My
end
section
namespace My
open PySem L2
section
variable {P:Program} {w:World} {K:W.Frag} {mg:Str->Option Value} {base:Heap}
variable {C CC:Addr}
theorem Zl8:∀ (l:List LogE),D.pls (l.map logD)=true/\D.deps (l.map logD)<=10:=by
 intro l
 induction l with
 | nil=>exact ⟨rfl,by decide⟩
 | cons q l ih =>
  refine ⟨?_,?_⟩
  ·rw[map_cons,D.pls,ih.1];rfl
  ·rw[map_cons,D.deps]
   have:D.dep (logD q)<=10:=by show D.dep (.tup [.str q.1,.int _,.int _])<=10;simp[D.dep,D.deps]
   have:=ih.2
   lia
theorem al_frs {H:Hp} {a b:Addr} {x y:List FZ} (hx:ZiW H a x) (hy:ZiW H b y) (e:x.map (·.2)=y.map (·.2)):AlikeS H 30 (.ref a) (.ref b):=by
 refine Zeq hx.1 hy.1 (by have:=congrArg List.length e;simpa using this) fun j u v e1 e2=>?_
 rw[getElem?_map] at e1 e2
 obtain ⟨z1,g1,rfl⟩:=Option.map_eq_some_iff.mp e1
 obtain ⟨z2,g2,rfl⟩:=Option.map_eq_some_iff.mp e2
 have ez:z1.2=z2.2:=by
  have:=congrArg (fun l=>l[j]?) e
  simp only[getElem?_map,g1,g2,Option.map_some,Option.some.injEq] at this
  exact this
 obtain ⟨p1,w1⟩:=hx.2 z1 (mem_of_getElem? g1)
 obtain ⟨p2,w2⟩:=hy.2 z2 (mem_of_getElem? g2)
 rw[ez] at p1 w1
 exact AlikeS.al (n:=29) (Zeq p1 p2 rfl (Zdt (Alike.refl _ trivial) (Zdt (Alike.refl _ trivial) (Zdt (AlikeS.al (n:=28) (Zez w1 w2)) ZlL))))
theorem Zit {H:Hp} {a b f1 f2 l1 l2 n1 n2:Addr} {x y:List FZ} {g:Int} {ls ns:List Int} {fin:Option En} {v1 v2:V} (ha:H a=some (.lst [.ref f1,.ref l1,.ref n1,.int g,v1])) (hb:H b=some (.lst [.ref f2,.ref l2,.ref n2,.int g,v2])) (hx:ZiW H f1 x) (hy:ZiW H f2 y) (e:x.map (·.2)=y.map (·.2)) (hl1:H l1=some (.lst (ls.map V.int))) (hl2:H l2=some (.lst (ls.map V.int))) (hn1:H n1=some (.lst (ns.map V.int))) (hn2:H n2=some (.lst (ns.map V.int))) (r1:Rep H (En.d fin) v1) (r2:Rep H (En.d fin) v2):AlikeS H 40 (.ref a) (.ref b):=by
 have hd:(En.d fin).dep<=40:=by
  rcases fin with _|(_|_|_) <;> simp[En.d,D.dep,D.deps]
 exact Zeq ha hb rfl (Zdt (((al_frs hx hy e).al).le (by decide)) (Zdt (AlikeS.al (n:=39) (Zez hl1 hl2)) (Zdt (AlikeS.al (n:=39) (Zez hn1 hn2)) (Zdt (Alike.refl _ trivial) (Zdt (Zkl r1 r2 hd) ZlL)))))
theorem al_SA {H:Hp} {ps sf sn sl qs tf tn tl:Addr} {gz yz:List FZ} {h:HS} {v1 v2:V} (a:SA ps sf sn sl gz H h v1) (b:SA qs tf tn tl yz H h v2):AlikeS H 40 (.ref ps) (.ref qs):=Zit a.obj b.obj a.frs b.frs (a.fr.trans b.fr.symm) a.ll b.ll a.nl b.nl a.en b.en
theorem ng50 {w:Nat} {held:Int} (hw:w<=5):∀ st∈Za7 w held,NoGT st.deed:=by
 intro st hst
 obtain ⟨k,hk⟩:=mem_iff_getElem?.mp hst
 cases Zct hw hk with
 | door _=>exact .inl ⟨_,_,rfl⟩
 | leave r fs h=>exact .inr (.inr (.inr rfl))
 | far _=>exact .inr (.inr (.inr rfl))
 | hold _ _=>exact .inr (.inr (.inl ⟨_,_,_,rfl⟩))
 | tell _ _=>exact .inr (.inl ⟨_,rfl⟩)
theorem bx50 {w:Nat} {held c:Int} (hw:w<=5):∀ st∈Za7 w held,DOk (P50 c w) st/\∀ s,st.paper=[s]->st.many=ZbT (P50 c w) s.1:=by
 intro st hst
 refine ⟨dok50 hw st hst,fun s e=>?_⟩
 obtain ⟨k,hk⟩:=mem_iff_getElem?.mp hst
 cases Zct hw hk with
 | door _=>cases e;rfl
 | leave r fs h=>cases e;rfl
 | far _=>cases e
 | hold _ _=>cases e
 | tell _ _=>cases e
theorem ln50 {w:Nat} {held:Int}:(Za7 w held).length<=1000:=by
 unfold Za7
 split
 ·show 6<=1000;decide
 ·show 5<=1000;decide
theorem Zmr {D:Ends} {σ:St} {H:Hp} (k:∀ H,D.rt (.bl true) H) {c0 c1 c2 c3 c6 c7 c9 c10 c11 c12:Option V} {w:Nat} {c most:Int} {pp ps sf sn sl:Addr} {gz:List FZ} {ve:V}
  (hσ:σ=[c0,c1,c2,c3,some (.int most),some (.ref pp),c6,c7,some (.ref ps),c9,c10,c11,c12])
  (hc:c.natAbs<=10 ^ 60) (m1:most<=400) (pg2:PgAt [] H (P50 c w) pp) (sa:SA ps sf sn sl gz H (hit (P50 c w) [] most.toNat) ve):(tSeq (tAsg (ZaQ (ZcY K) [] E0 (Zae (tVar 5) (Zae (tLst tNil) tNil))) (ZaI 12)) (tSeq (Zfn (tAnd (ZaW (tOp rIsN (tOp (rIxA K) (tVar 12) (tC (.int 4))) (tC .non))) (ZaW (tOp (rI0 fun i j=>.bl (decide (i < j))) (tOp (rIxA K) (tVar 12) (tC (.int 3))) (tVar 4)))) (ZdI (ZaQ ZcW [] E0 (Zae (tVar 5) (Zae (tVar 12) tNil))))) (tRet (tOp rEqA (tVar 12) (tVar 8))))) D σ H:=by
 subst hσ
 have PO:PgOk (P50 c w):=pg50 hc
 have HOA:=fun j=>ZeH (ns:=[]) PO (fun x hx=>by cases hx) (by decide) j
 walk_at"rdy"
 refine mk_L (Zcc rfl) fun qn H2b s2b _ h2b=>?_
 have pg2b:=pg2.by (OSame.of s2b) s2b.ts (own':=[]) (fun x hx=>by cases hx)
 walk_at"rdy"
 refine use2 ⟨[],_,pp,qn,[],rfl,rfl,pg2b,PO,h2b,fun qs tf tn tl yz H3 s3 a3 n3=>?_⟩
 walk_at"rdy"
 refine ⟨(fun mm σ Hx=>Ex3 fun j yz ve=>An6 (mm=most.toNat - j) (σ=[c0,c1,c2,c3,some (.int most),some (.ref pp),c6,c7,some (.ref ps),c9,c10,c11,some (.ref qs)]) (Ran (P50 c w) [] most j) (SA qs tf tn tl yz Hx (hit (P50 c w) [] j) ve) (Same H2b Hx) (∀ x∈ownA qs tf tn tl yz,H2b x=none)),⟨most.toNat,0,yz,.non,rfl,rfl,Ran.zero,a3,s3,n3⟩,?_⟩
 rintro mm σ Hx ⟨j,yz,ve,rfl,rfl,rn,a,sx,nx⟩
 obtain ⟨HOi,gi⟩:=HOA j
 have fin:hit (P50 c w) [] most.toNat=hit (P50 c w) [] j->(tRet (tOp rEqA (tVar 12) (tVar 8))) D [c0,c1,c2,c3,some (.int most),some (.ref pp),c6,c7,some (.ref ps),c9,c10,c11,some (.ref qs)] Hx:=fun hj=>by
  have sb:=sa.mono (s2b.trans sx)
  rw[hj] at sb
  walk_at"rdy"
  exact rd_eqA (al_SA a sb) (k _)
 walk_at"rdy"
 refine Zak (v:=ve) a.obj rfl ?_
 walk_at"rdy"
 have en:=a.en
 cases hf:(hit (P50 c w) [] j).fin with
 | some e =>
  rw[hf] at en
  refine Zao (ZgN en) ?_
  refine iteF ?_
  exact fin (rn.done1 hf)
 | none =>
  rw[hf] at en
  obtain rfl:=ZgO en
  refine ZaJ rfl ?_
  walk_at"rdy"
  refine Zak (v:=.int (hit (P50 c w) [] j).gone) a.obj rfl ?_
  walk_at"rdy"
  refine Zbr (fun hg=>?_) (fun hg=>fin (rn.done2 hf hg))
  refine ZcQ fun N hN=>?_
  have hgj:=rn.gone hf
  have rn':=rn.next PO HOi hf hg
  walk_at"rdy"
  refine use2 ⟨pp,_,qs,tf,tn,tl,yz,_,.non,rfl,rfl,pg2b.by (OSame.of sx) sx.ts (fun x hx=>.inr (nx x hx)),a,PO,HOi,hf,by lia,fun gz' ve' H4 a4 o4 f4=>?_⟩
  walk_at"rdy"
  refine hN _ _ ⟨_,?_,j+1,gz',ve',rfl,rfl,rn',a4,fun b o e=>o4 b o (fun mm=>by rw[nx b mm] at e;cases e) (sx _ _ e),fun x hx=>?_⟩
  ·have:=rn'.le;lia
  ·rcases f4 x hx with h|h
   ·exact nx x h
   ·exact sx.free h
theorem law_r7 {D:Ends} {σ:St} {H:Hp} (k:∀ H,D.rt (.bl true) H) {c0 c1 c2 c3 c8 c9 c10 c11 c12:Option V} {w:Nat} {c most held:Int} {pp q qb:Addr} {ys:List V} {bs:List Bool} (HHand:CHand K C)
  (hσ:σ=[c0,c1,c2,c3,some (.int most),some (.ref pp),some (.ref q),some (.ref qb),c8,c9,c10,c11,c12])
  (hw:w<=5) (hc:c.natAbs<=10 ^ 60) (hh:held.natAbs<=10 ^ 60) (m1:most<=400) (pg:PgAt [] H (P50 c w) pp) (la:LaneAt H (Za7 w held) q ys) (hqb:H qb=some (.lst (bs.map V.bl))) (hb:bs.length<=1000):(tSeq (tAsg (ZaQ ZcR [] E0 (Zae (tVar 5) (Zae (tVar 6) (Zae (tLst tNil) (Zae (tVar 4) (Zae (tVar 7) tNil)))))) (gTup K 2 (ZcP (ZaI 8) (ZcP (ZaI 9) gNil)))) (tSeq (tAsg (ZaQ (Zdj C CC) [] E0 (Zae (tVar 5) (Zae (tVar 6) (Zae (tLst tNil) (Zae (tVar 4) (Zae (tCB (Ze1 K) (Zae (tVar 7) tNil)) tNil)))))) (gTup K 2 (ZcP (ZaI 10) (ZcP (ZaI 11) gNil)))) (tSeq (tIfS (tOr (ZaW (tOp rNeA (tLst (Zae (tFld K (tVar 10) "frames") (Zae (tFld K (tVar 10) "left") (Zae (tFld K (tVar 10) "news") (Zae (tFld K (tVar 10) "gone") (Zae (tFld K (tVar 10) "end") tNil)))))) (tVar 8))) (ZaW (tOp (rNeL K) (tVar 11) (tVar 9)))) (tRet (tC (.bl false))) ZbH) (tSeq (tAsg (ZaQ (ZcY K) [] E0 (Zae (tVar 5) (Zae (tLst tNil) tNil))) (ZaI 12)) (tSeq (Zfn (tAnd (ZaW (tOp rIsN (tOp (rIxA K) (tVar 12) (tC (.int 4))) (tC .non))) (ZaW (tOp (rI0 fun i j=>.bl (decide (i < j))) (tOp (rIxA K) (tVar 12) (tC (.int 3))) (tVar 4)))) (ZdI (ZaQ ZcW [] E0 (Zae (tVar 5) (Zae (tVar 12) tNil))))) (tRet (tOp rEqA (tVar 12) (tVar 8)))))))) D σ H:=by
 subst hσ
 have PO:PgOk (P50 c w):=pg50 hc
 have HOA:=fun j=>ZeH (ns:=[]) PO (fun x hx=>by cases hx) (by decide) j
 walk_at"rdy"
 refine mk_L (Zcc rfl) fun qn H1 s1 _ h1=>?_
 walk_at"rdy"
 refine use5 ⟨P50 c w,pp,q,ys,Za7 w held,qn,[],most,qb,bs,W50 c w held most,_,_,rfl,pg.by (OSame.of s1) s1.ts (fun x hx=>by cases hx),PO,rfl,la.mono s1,ln50,bx50 hw,ng50 hw,rfl,h1,by decide,(fun x hx=>by cases hx),rfl,by lia,rfl,s1 _ _ hqb,hb,ZlB hc hh hw (by lia),sim50 hc hw,fun h l n t ps sf sn sl gz ve lg vs H2 rt hh1 hstop sa hlg rl ht s2 few=>?_⟩
 have s02:=s1.trans s2
 refine Zb4 ht rfl ?_
 walk_at"rdy"
 refine mk_L (Zcc rfl) fun qm H3 s3 _ h3=>?_
 have s03:=s02.trans s3
 walk_at"rdy"
 refine Zc7 (.inl (SqL.of (s03 _ _ hqb))) fun qc hqc=>?_
 have s4:=Same.new (o:=.lst (bs.map V.bl)) hqc
 have e4:upd H3 qc (.lst (bs.map V.bl)) qc=some (.lst (bs.map V.bl)):=Zag
 generalize upd H3 qc (.lst (bs.map V.bl))=H4 at s4 e4
 have s04:=s03.trans s4
 walk_at"rdy"
 refine use5 ⟨P50 c w,pp,q,ys,Za7 w held,qm,[],most,qc,bs,W50 c w held most,_,_,rfl,pg.by (OSame.of s04) s04.ts (fun x hx=>by cases hx),PO,rfl,la.mono s04,ln50,dok50 hw,rfl,s4 _ _ h3,by decide,(fun x hx=>by cases hx),rfl,by lia,rfl,e4,by lia,ZlB hc hh hw (by lia),sim50 hc hw,fun h' l' n' t' p dx pa pf pn pl fz ve' lg' vs' H5 rt' hh2 hstop' a hlg' rl' ht' s5 fr nlg lg0=>?_⟩
 obtain ⟨rfl,rfl,rfl⟩:=RTo.det rt rt' hstop hstop'
 have s25:=(s3.trans s4).trans s5
 refine Zb4 ht' rfl ?_
 walk_at"rdy"
 refine ZaU a.obj HHand.cl HHand.n_frames Zbn ?_
 walk_at"rdy"
 refine ZaU a.obj HHand.cl HHand.n_left Zfa ?_
 walk_at"rdy"
 refine ZaU a.obj HHand.cl HHand.n_news ZhF ?_
 walk_at"rdy"
 refine ZaU a.obj HHand.cl HHand.n_gone ZdV ?_
 walk_at"rdy"
 refine ZaU a.obj HHand.cl HHand.n_end Zij ?_
 walk_at"rdy"
 refine mk_L (Zcc rfl) fun qz H6 s6 _ h6=>?_
 walk_at"rdy"
 have s26:=s25.trans s6
 have a6:=a.mono s6
 have sa6:=sa.mono s26
 refine rd_neA (Zit h6 sa6.obj a6.frs sa6.frs (a6.fr.trans sa6.fr.symm) a6.ll sa6.ll a6.nl sa6.nl a6.en sa6.en) ?_
 refine ⟨_,rfl,?_⟩
 refine Ze8 rfl ?_
 walk_at"rdy"
 obtain ⟨pl1,dp1⟩:=Zl8 l
 refine ⟨lg',lg,vs',vs,_,_,rfl,rfl,SqL.of (s6 _ _ hlg'),SqL.of (s26 _ _ hlg),rl'.mono s6.ts,rl.mono s26.ts,pl1,pl1,by lia,?_⟩
 rw[Zb8]
 refine ⟨_,rfl,?_⟩
 refine Ze8 rfl ?_
 refine Za5 ?_
 have s06:=(s02.trans s26)
 rw[hh1] at sa6
 exact Zmr k rfl hc m1 (pg.by (OSame.of s06) s06.ts (fun x hx=>by cases hx)) sa6
theorem pl50 {w:Nat} {held:Int} (hw:w<=5) {k:Nat} {st:Std} (e:(Za7 w held)[k]?=some st):st.paper.length<=4:=by
 cases Zct hw e <;> first|(show 1<=4;decide)|(show 4<=4;decide)
theorem ZkQ {w:Nat} {held:Int} {q b l:Addr} {ys:List V} {H H':Hp} (hw:w<=5) (la:LaneAt H (Za7 w held) q ys) (B:BagAt H b l) (nq:q≠b) (s:BSame b H H'):LaneAt H' (Za7 w held) q ys:=by
 refine ⟨s _ _ nq la.lst,la.len,fun i st v e1 e2=>(la.at' i st v e1 e2).by (own:=[b]) (fun a o na e=>s a o (fun z=>na (by rw[z];exact mem_cons_self)) e) (fun a ha xs e=>?_) fun t l2 vd ev et m=>?_⟩
 ·obtain ⟨ys,hy⟩:=B.lst
  rw[mem_singleton.mp ha,hy] at e;cases e
 ·obtain ⟨t2,l3,ys2,vd2,ev2,et2,el2,rp,_⟩:=la.at' i st v e1 e2
  rw[ev] at ev2
  cases ev2
  rw[et] at et2
  cases et2
  obtain ⟨_,_,_,_,_,hb,_⟩:=B.ex
  rw[mem_singleton.mp m,hb] at el2
  cases el2
  have h5:=rp.length
  have h4:=pl50 hw e1
  rw[length_map] at h5
  have h6:∀ (i m st c:Int),(bagL l i m st c).length=5:=fun _ _ _ _=>rfl
  rw[h6] at h5
  lia
theorem law_r4 {D:Ends} {σ:St} {H:Hp} (k:∀ H,D.rt (.bl true) H) {c0 c5 c6 c7 c8 c9 c10 c11 c12:Option V} {b l:Addr} {w:Nat} {c most:Int} (HHand:CHand K C)
  (hσ:σ=[c0,some (.ref b),some (.int w),some (.int c),some (.int most),c5,c6,c7,c8,c9,c10,c11,c12])
  (hw:w<=5) (hc:c.natAbs<=10 ^ 60) (m1:most<=400) (B:BagAt H b l):(tSeq (tAsg (ZaQ Zd5 [] E0 (Zae (tVar 3) (Zae (tVar 2) tNil))) (ZaI 5)) (tSeq (tAsg (ZaQ Zd7 [] E0 (Zae (tVar 2) (Zae (tOp (rIxA K) (tLst (Zae (tC (.int 1)) (Zae (tC (.int 1)) (Zae (ZaQ Zd6 [] E0 (Zae (tVar 1) tNil)) tNil)))) (ZaQ Zby [] E0 (Zae (tVar 1) (Zae (tC (.int 3)) tNil)))) tNil))) (ZaI 6)) (tSeq (tAsg (ZaQ ZfD [] E0 (Zae (tVar 1) tNil)) (ZaI 7)) (tSeq (tAsg (ZaQ ZcR [] E0 (Zae (tVar 5) (Zae (tVar 6) (Zae (tLst tNil) (Zae (tVar 4) (Zae (tVar 7) tNil)))))) (gTup K 2 (ZcP (ZaI 8) (ZcP (ZaI 9) gNil)))) (tSeq (tAsg (ZaQ (Zdj C CC) [] E0 (Zae (tVar 5) (Zae (tVar 6) (Zae (tLst tNil) (Zae (tVar 4) (Zae (tCB (Ze1 K) (Zae (tVar 7) tNil)) tNil)))))) (gTup K 2 (ZcP (ZaI 10) (ZcP (ZaI 11) gNil)))) (tSeq (tIfS (tOr (ZaW (tOp rNeA (tLst (Zae (tFld K (tVar 10) "frames") (Zae (tFld K (tVar 10) "left") (Zae (tFld K (tVar 10) "news") (Zae (tFld K (tVar 10) "gone") (Zae (tFld K (tVar 10) "end") tNil)))))) (tVar 8))) (ZaW (tOp (rNeL K) (tVar 11) (tVar 9)))) (tRet (tC (.bl false))) ZbH) (tSeq (tAsg (ZaQ (ZcY K) [] E0 (Zae (tVar 5) (Zae (tLst tNil) tNil))) (ZaI 12)) (tSeq (Zfn (tAnd (ZaW (tOp rIsN (tOp (rIxA K) (tVar 12) (tC (.int 4))) (tC .non))) (ZaW (tOp (rI0 fun i j=>.bl (decide (i < j))) (tOp (rIxA K) (tVar 12) (tC (.int 3))) (tVar 4)))) (ZdI (ZaQ ZcW [] E0 (Zae (tVar 5) (Zae (tVar 12) tNil))))) (tRet (tOp rEqA (tVar 12) (tVar 8))))))))))) D σ H:=by
 subst hσ
 walk_at"rdy"
 refine use2 ⟨c,w,rfl,rfl,hw,fun pp H1 s1 fp=>?_⟩
 walk_at"rdy"
 refine use1 ⟨b,l,rfl,B.mono s1,fun num H2 hn B2 b2=>?_⟩
 walk_at"rdy"
 refine mk_L (Zcc rfl) fun qn H3 s3 _ h3=>?_
 walk_at"rdy"
 refine use2 ⟨b,l,3,rfl,rfl,⟨by decide,by decide⟩,B2.mono s3,fun ix H4 i0 i1 B4 b4=>?_⟩
 have nqb:qn≠b:=fun z=>by
  obtain ⟨xs,hx⟩:=B2.lst
  rename_i hq0
  rw[z,hx] at hq0;cases hq0
 obtain ⟨held,hh,hix⟩:∃ held:Int,held.natAbs<=10 ^ 60/\atI [V.int 1,V.int 1,V.int num] ix=some (.int held):=by
  have:ix=0\/ix=1\/ix=2:=by lia
  rcases this with rfl|rfl|rfl
  ·exact ⟨1,by decide,rfl⟩
  ·exact ⟨1,by decide,rfl⟩
  ·exact ⟨num,by lia,rfl⟩
 refine Zak (b4 _ _ nqb h3) hix ?_
 walk_at"rdy"
 refine use2 ⟨w,held,rfl,rfl,hw,fun q ys H5 s5 hq la=>?_⟩
 walk_at"rdy"
 refine use1 ⟨b,l,rfl,B4.mono s5,fun qb bs H6 hqb hbl B6 b6=>?_⟩
 have hb0:H b≠none:=by
  obtain ⟨xs,hx⟩:=B.lst
  rw[hx];exact fun z=>by cases z
 have b16:=(((b2.to s3).trans b4).to s5).trans b6
 have os:∀ {X Y:Hp},BSame b X Y->OSame [b] X Y:=fun h a o na e=>h a o (fun z=>na (by rw[z];exact mem_cons_self)) e
 have pg6:PgAt [] H6 (P50 c w) pp:=(fp.by hb0 (fun xs e=>by
  obtain ⟨ys,hy⟩:=(B.mono s1).lst
  rw[hy] at e;cases e) (os b16)).at fun x hx=>by cases hx
 exact law_r7 k HHand rfl hw hc hh m1 pg6 (ZkQ hw la (B4.mono s5) (fun z=>by
  obtain ⟨ys,hy⟩:=B4.lst
  rw[z,hy] at hq;cases hq) b6) hqb hbl
theorem law_r0 {D:Ends} {H:Hp} (k:∀ H,D.rt (.bl true) H) {a:Addr} {zs:List Int} (HHand:CHand K C) (hS:SqL K H a (zs.map V.int)) (hlen:zs.length<=63):(tSeq (tAsg (ZaQ (Zi9 K) [] E0 (Zae (tVar 0) tNil)) (ZaI 1)) (tSeq (tAsg (ZaQ Zby [] E0 (Zae (tVar 1) (Zae (tC (.int 6)) tNil))) (ZaI 2)) (tSeq (tAsg (tOp (rIxA K) (tLst (Zae (ZaQ Zby [] E0 (Zae (tVar 1) (Zae (tC (.int 26)) tNil))) (Zae (tOp (rI0 fun i j=>.int (i - j)) (tUn (rU fun i=>V.int (-i)) (tC (.int 1))) (ZaQ Zby [] E0 (Zae (tVar 1) (Zae (tOp (rI CPow fun i j=>.int (i ^ j.toNat)) (tC (.int 10)) (tC (.int 50))) tNil)))) tNil))) (tOp (rI Zko fun i j=>.int (i / j)) (ZaQ Zby [] E0 (Zae (tVar 1) (Zae (tC (.int 3)) tNil))) (tC (.int 2)))) (ZaI 3)) (tSeq (tAsg (tOp (rIxA K) (tLst (Zae (ZaQ Zby [] E0 (Zae (tVar 1) (Zae (tC (.int 401)) tNil))) (Zae (tC (.int 400)) tNil))) (ZaQ Zby [] E0 (Zae (tVar 1) (Zae (tC (.int 2)) tNil)))) (ZaI 4)) (tSeq (tAsg (ZaQ Zd5 [] E0 (Zae (tVar 3) (Zae (tVar 2) tNil))) (ZaI 5)) (tSeq (tAsg (ZaQ Zd7 [] E0 (Zae (tVar 2) (Zae (tOp (rIxA K) (tLst (Zae (tC (.int 1)) (Zae (tC (.int 1)) (Zae (ZaQ Zd6 [] E0 (Zae (tVar 1) tNil)) tNil)))) (ZaQ Zby [] E0 (Zae (tVar 1) (Zae (tC (.int 3)) tNil)))) tNil))) (ZaI 6)) (tSeq (tAsg (ZaQ ZfD [] E0 (Zae (tVar 1) tNil)) (ZaI 7)) (tSeq (tAsg (ZaQ ZcR [] E0 (Zae (tVar 5) (Zae (tVar 6) (Zae (tLst tNil) (Zae (tVar 4) (Zae (tVar 7) tNil)))))) (gTup K 2 (ZcP (ZaI 8) (ZcP (ZaI 9) gNil)))) (tSeq (tAsg (ZaQ (Zdj C CC) [] E0 (Zae (tVar 5) (Zae (tVar 6) (Zae (tLst tNil) (Zae (tVar 4) (Zae (tCB (Ze1 K) (Zae (tVar 7) tNil)) tNil)))))) (gTup K 2 (ZcP (ZaI 10) (ZcP (ZaI 11) gNil)))) (tSeq (tIfS (tOr (ZaW (tOp rNeA (tLst (Zae (tFld K (tVar 10) "frames") (Zae (tFld K (tVar 10) "left") (Zae (tFld K (tVar 10) "news") (Zae (tFld K (tVar 10) "gone") (Zae (tFld K (tVar 10) "end") tNil)))))) (tVar 8))) (ZaW (tOp (rNeL K) (tVar 11) (tVar 9)))) (tRet (tC (.bl false))) ZbH) (tSeq (tAsg (ZaQ (ZcY K) [] E0 (Zae (tVar 5) (Zae (tLst tNil) tNil))) (ZaI 12)) (tSeq (Zfn (tAnd (ZaW (tOp rIsN (tOp (rIxA K) (tVar 12) (tC (.int 4))) (tC .non))) (ZaW (tOp (rI0 fun i j=>.bl (decide (i < j))) (tOp (rIxA K) (tVar 12) (tC (.int 3))) (tVar 4)))) (ZdI (ZaQ ZcW [] E0 (Zae (tVar 5) (Zae (tVar 12) tNil))))) (tRet (tOp rEqA (tVar 12) (tVar 8))))))))))))))) D [some (.ref a),none,none,none,none,none,none,none,none,none,none,none,none] H:=by
 walk_at"rdy"
 refine use1 ⟨a,zs,rfl,hS,hlen,fun b l H1 hb s1 B1=>?_⟩
 walk_at"rdy"
 refine use2 ⟨b,l,6,rfl,rfl,⟨by decide,by decide⟩,B1,fun wy H2 w0 w1 B2 s2=>?_⟩
 obtain ⟨w,rfl⟩:∃ m:Nat,wy=m:=⟨wy.toNat,by lia⟩
 have live:∀ {X:Hp} {p:Addr},BagAt X b l->X p=none->p≠b:=fun B h z=>by
  obtain ⟨ys,hy⟩:=B.lst
  rw[z,hy] at h;cases h
 walk_at"rdy"
 refine use2 ⟨b,l,26,rfl,rfl,⟨by decide,by decide⟩,B2,fun n1 H3 a0 a1 B3 s3=>?_⟩
 walk_at"rdy"
 refine rd_I ⟨by decide,by decide,by decide⟩ ?_
 walk_at"rdy"
 refine use2 ⟨b,l,10 ^ 50,rfl,rfl,⟨by decide,by decide⟩,B3,fun n2 H4 a2 a3 B4 s4=>?_⟩
 refine ⟨_,_,rfl,rfl,?_⟩
 walk_at"rdy"
 refine mk_L (Zcc rfl) fun qn H5 s5 hq5 h5=>?_
 walk_at"rdy"
 refine use2 ⟨b,l,3,rfl,rfl,⟨by decide,by decide⟩,B4.mono s5,fun ix H6 i0 i1 B6 b6=>?_⟩
 walk_at"rdy"
 refine rd_I ⟨by decide,by decide +kernel⟩ ?_
 obtain ⟨c,hc,hix⟩:∃ c:Int,c.natAbs<=10 ^ 60/\atI [V.int n1,V.int (-1 - n2)] (ix / 2)=some (.int c):=by
  have:ix=0\/ix=1\/ix=2:=by lia
  have h1:n1.natAbs<=10 ^ 60:=Nat.le_trans (show n1.natAbs<=26 by lia) (by decide +kernel)
  rcases this with rfl|rfl|rfl
  ·exact ⟨n1,h1,rfl⟩
  ·exact ⟨n1,h1,rfl⟩
  ·exact ⟨-1 - n2,Nat.le_trans (show (-1 - n2).natAbs<=10 ^ 50 by lia) (by decide +kernel),rfl⟩
 refine Zak (b6 _ _ (live B4 hq5) h5) hix ?_
 walk_at"rdy"
 refine use2 ⟨b,l,401,rfl,rfl,⟨by decide,by decide⟩,B6,fun m1 H7 m0 m2 B7 b7=>?_⟩
 walk_at"rdy"
 refine mk_L (Zcc rfl) fun qm H8 s8 hq8 h8=>?_
 walk_at"rdy"
 refine use2 ⟨b,l,2,rfl,rfl,⟨by decide,by decide⟩,B7.mono s8,fun iy H9 j0 j1 B9 b9=>?_⟩
 obtain ⟨most,hm,hiy⟩:∃ c:Int,c<=400/\atI [V.int m1,V.int 400] iy=some (.int c):=by
  have:iy=0\/iy=1:=by lia
  rcases this with rfl|rfl
  ·exact ⟨m1,by lia,rfl⟩
  ·exact ⟨400,by decide,rfl⟩
 refine Zak (b9 _ _ (live B7 hq8) h8) hiy ?_
 refine ZaC ?_
 exact law_r4 k HHand rfl (by lia) hc hm B9
end
end My
end
end
namespace My
open PySem L2
section
variable {P:Program} {w:World} {K:W.Frag} {mg:Str->Option Value} {base:Heap} {C CC:Addr}
theorem sc_law:FnScope ["script","bag","way","count","most","program","lane","when","state","due","hand","log","other"] ["script"] (Zan Zks):=⟨rfl,rfl,rfl,by decide +kernel,rfl,by decide +kernel,by decide +kernel⟩
theorem ZjG {f:Addr} {fd:FuncData} (B:Blt mg) (G:Glb K w mg) (HHand:CHand K C) (HChances:CChances K CC) (T__law_draw:TopFn K mg "_law_draw" Zc5 ["bag","many"]) (T__law_number:TopFn K mg "_law_number" Zcj ["bag"]) (T__law_bag:TopFn K mg "_law_bag" ZdC ["script"]) (T_row_of:TopFn K mg "row_of" Zea ["program","frame"]) (T_goes_to_row:TopFn K mg "goes_to_row" Zcg ["row","number"]) (T_new_frame:TopFn K mg "new_frame" ZcZ ["program","f","numbers"]) (T_reckoned:TopFn K mg "reckoned" Zdw ["row","boxes"]) (T_row_behind:TopFn K mg "row_behind" Zcy ["row","at","boxes"]) (T_Hand_end_at:TopM K C "end_at" "Hand.end_at" Zck ["self","row"]) (T_Hand_do_own:TopM K C "do_own" "Hand.do_own" Zcm ["self","row","boxes"]) (T_Hand_give_back:TopM K C "give_back" "Hand.give_back" ZbP ["self","number"]) (T_Hand_do_row:TopM K C "do_row" "Hand.do_row" Zcl ["self","row"]) (T_Hand_go:TopM K C "go" "Hand.go" Zef ["self"]) (T_Hand___init__:TopI K mg C "Hand" "Hand.__init__" ZbZ ["self","program","inputs"]) (T_Chances___init__:TopI K mg CC "Chances" "Chances.__init__" ZbC ["self","when"]) (T_Chances_ask:TopM K CC "ask" "Chances.ask" Zcn ["self"]) (T_place_of:TopFn K mg "place_of" Zdx ["hand"]) (T_has_room:TopFn K mg "has_room" Zdz ["hand"]) (T_last_row:TopFn K mg "last_row" Zdy ["program","stand"]) (T_worth:TopFn K mg "worth" ZfI ["form","words"]) (T_edges_of:TopFn K mg "edges_of" ZdA ["deed"]) (T_box_number:TopFn K mg "box_number" ZcA ["program","stand","words"]) (T_edge_ahead:TopFn K mg "edge_ahead" Zcz ["program","stand","words"]) (T_rows_ahead:TopFn K mg "rows_ahead" Zcx ["stand","edge"]) (T_away_reason:TopFn K mg "away_reason" Zch ["hand","stand","words","edge","most"]) (T_words_in:TopFn K mg "words_in" Zdv ["hand"]) (T_go_edge:TopFn K mg "go_edge" Zee ["hand","stand","words","edge"]) (T_frames_of:TopFn K mg "frames_of" Zc0 ["paper","words"]) (T_go_lane:TopFn K mg "go_lane" Zed ["hand","lane","k","most","chances"]) (T_of_word:TopFn K mg "of_word" Zeb ["w"]) (T_is_door:TopFn K mg "is_door" Zec ["program","stand"]) (T_doors_of:TopFn K mg "doors_of" ZdB ["program","lane"]) (T_ridden:TopFn K mg "ridden" ZeM ["program","lane","inputs","most","when"]) (T__law_worth:TopFn K mg "_law_worth" ZcB ["state","row","boxes"]) (T__law_goes:TopFn K mg "_law_goes" Zc4 ["program","state","row","boxes"]) (T__law_step:TopFn K mg "_law_step" Zc2 ["program","state"]) (T__law_begun:TopFn K mg "_law_begun" ZcF ["program","inputs"]) (T__law_under:TopFn K mg "_law_under" ZcD ["form","words"]) (T__law_words:TopFn K mg "_law_words" ZcC ["many"]) (T__law_when:TopFn K mg "_law_when" Zc1 ["bag"]) (T__law_program:TopFn K mg "_law_program" Zb6 ["count","way"]) (T__law_lane:TopFn K mg "_law_lane" Zc3 ["way","held"]) (T__law_doors:TopFn K mg "_law_doors" ZcE ["lane"]) (T__law_done:TopFn K mg "_law_done" Zc6 ["program","lane","state","most","words","k"]) (T__law_in_lane:TopFn K mg "_law_in_lane" Zb7 ["program","lane","state","most","answers","k"]) (T__law_ridden:TopFn K mg "_law_ridden" Zci ["program","lane","inputs","most","when"]) (T_law:Fun K "law" "law" Zks f fd):FnOk P w K mg base CX0 14 f fd ["script"] (Zjc K):=by
 have ZaP:=ZhS (P:=P) (w:=w) (base:=base) B T__law_draw
 have Zha:=Zf9 (P:=P) (w:=w) (base:=base) T__law_number ZaP
 have Zkn:=ZiT (P:=P) (w:=w) (base:=base) B T__law_bag
 have Crow_of:=Zlc (P:=P) (w:=w) (base:=base) T_row_of
 have Cgoes_to_row:=Zf6 (P:=P) (w:=w) (base:=base) T_goes_to_row
 have Cnew_frame:=ZhM (P:=P) (w:=w) (base:=base) B T_new_frame
 have Creckoned:=ZiN (P:=P) (w:=w) (base:=base) T_reckoned
 have Crow_behind:=ZgW (P:=P) (w:=w) (base:=base) T_row_behind Cgoes_to_row
 have MHand_end_at:=Zga (P:=P) (w:=w) (base:=base) B G HHand T_Hand_end_at
 have MHand_do_own:=Zgc (P:=P) (w:=w) (base:=base) B G HHand T_Hand_do_own Creckoned
 have MHand_give_back:=ZeK (P:=P) (w:=w) (base:=base) HHand T_Hand_give_back Crow_of
 have MHand_do_row:=Zgb (P:=P) (w:=w) (base:=base) B HHand T_Hand_do_row Cnew_frame Crow_behind MHand_give_back MHand_do_own
 have MHand_go:=Zkg (P:=P) (w:=w) (base:=base) HHand T_Hand_go Crow_of MHand_end_at MHand_do_row
 have NHand:=Zfe (P:=P) (w:=w) (base:=base) B HHand T_Hand___init__ Cnew_frame
 have NChances:=Zep (P:=P) (w:=w) (base:=base) HChances T_Chances___init__
 have MChances_ask:=Zgd (P:=P) (w:=w) (base:=base) B HChances T_Chances_ask
 have Cplace_of:=ZiO (P:=P) (w:=w) (base:=base) HHand T_place_of
 have Chas_room:=ZiQ (P:=P) (w:=w) (base:=base) B G HHand T_has_room
 have Crow_ofT:=Zkb (P:=P) (w:=w) (base:=base) T_row_of
 have Clast_row:=ZiP (P:=P) (w:=w) (base:=base) T_last_row Crow_ofT
 have Cworth:=ZmN (P:=P) (w:=w) (base:=base) B T_worth
 have Cedges_of:=ZiR (P:=P) (w:=w) (base:=base) T_edges_of
 have Cbox_number:=ZgY (P:=P) (w:=w) (base:=base) T_box_number Cworth Clast_row
 have Cedge_ahead:=ZgX (P:=P) (w:=w) (base:=base) B T_edge_ahead Cedges_of Cgoes_to_row Clast_row Cbox_number
 have Crows_ahead:=ZgV (P:=P) (w:=w) (base:=base) G T_rows_ahead
 have Caway_reason:=Zf7 (P:=P) (w:=w) (base:=base) B HHand T_away_reason Crows_ahead
 have Cwords_in:=ZiM (P:=P) (w:=w) (base:=base) B HHand T_words_in
 have Cgo_edge:=Zkf (P:=P) (w:=w) (base:=base) B HHand T_go_edge Cworth Cbox_number Crows_ahead
 have Cframes_of:=ZhN (P:=P) (w:=w) (base:=base) B T_frames_of Cworth
 have Cgo_lane:=Zke (P:=P) (w:=w) (base:=base) B HHand HChances T_go_lane Cwords_in Cedge_ahead MChances_ask Caway_reason Cframes_of Cgo_edge
 have Cof_word:=Zkc (P:=P) (w:=w) (base:=base) T_of_word
 have Cis_door:=Zkd (P:=P) (w:=w) (base:=base) B T_is_door Cof_word
 have Cdoors_of:=ZiS (P:=P) (w:=w) (base:=base) B T_doors_of Cis_door
 have Cridden:=Zld (P:=P) (w:=w) (base:=base) B HHand HChances T_ridden NHand NChances Cdoors_of Cplace_of Chas_room MChances_ask Cgo_lane MHand_go
 have Zd2:=ZgZ (P:=P) (w:=w) (base:=base) T__law_worth
 have ZeC:=ZhR (P:=P) (w:=w) (base:=base) T__law_goes Zd2
 have ZdH:=ZhP (P:=P) (w:=w) (base:=base) B T__law_step ZeC
 have Zdd:=Zg3 (P:=P) (w:=w) (base:=base) B T__law_begun
 have ZbU:=Zg1 (P:=P) (w:=w) (base:=base) B T__law_under
 have Zd3:=Zg0 (P:=P) (w:=w) (base:=base) B T__law_words
 have ZiX:=ZhO (P:=P) (w:=w) (base:=base) B T__law_when ZaP
 have Zgf:=Zfl (P:=P) (w:=w) (base:=base) B T__law_program
 have ZiY:=ZhQ (P:=P) (w:=w) (base:=base) B T__law_lane
 have Zd4:=Zg2 (P:=P) (w:=w) (base:=base) B T__law_doors Zd3
 have ZeD:=ZhT (P:=P) (w:=w) (base:=base) B T__law_done ZbU
 have Zdc:=Zfm (P:=P) (w:=w) (base:=base) B T__law_in_lane ZbU ZeD
 have Zg9:=Zf8 (P:=P) (w:=w) (base:=base) B T__law_ridden Zdd Zd4 Zdc ZdH
 refine T_law.law (k:=13) sc_law fun cdv A outer s H a ns Q E hr hS hlen k=>?_
 have nd:=sc_law.nd
 have hu:=hr.units
 have main:(tSeq (tAsg (ZaQ (Zi9 K) [] E0 (Zae (tVar 0) tNil)) (ZaI 1)) (tSeq (tAsg (ZaQ Zby [] E0 (Zae (tVar 1) (Zae (tC (.int 6)) tNil))) (ZaI 2)) (tSeq (tAsg (tOp (rIxA K) (tLst (Zae (ZaQ Zby [] E0 (Zae (tVar 1) (Zae (tC (.int 26)) tNil))) (Zae (tOp (rI0 fun i j=>.int (i - j)) (tUn (rU fun i=>V.int (-i)) (tC (.int 1))) (ZaQ Zby [] E0 (Zae (tVar 1) (Zae (tOp (rI CPow fun i j=>.int (i ^ j.toNat)) (tC (.int 10)) (tC (.int 50))) tNil)))) tNil))) (tOp (rI Zko fun i j=>.int (i / j)) (ZaQ Zby [] E0 (Zae (tVar 1) (Zae (tC (.int 3)) tNil))) (tC (.int 2)))) (ZaI 3)) (tSeq (tAsg (tOp (rIxA K) (tLst (Zae (ZaQ Zby [] E0 (Zae (tVar 1) (Zae (tC (.int 401)) tNil))) (Zae (tC (.int 400)) tNil))) (ZaQ Zby [] E0 (Zae (tVar 1) (Zae (tC (.int 2)) tNil)))) (ZaI 4)) (tSeq (tAsg (ZaQ Zd5 [] E0 (Zae (tVar 3) (Zae (tVar 2) tNil))) (ZaI 5)) (tSeq (tAsg (ZaQ Zd7 [] E0 (Zae (tVar 2) (Zae (tOp (rIxA K) (tLst (Zae (tC (.int 1)) (Zae (tC (.int 1)) (Zae (ZaQ Zd6 [] E0 (Zae (tVar 1) tNil)) tNil)))) (ZaQ Zby [] E0 (Zae (tVar 1) (Zae (tC (.int 3)) tNil)))) tNil))) (ZaI 6)) (tSeq (tAsg (ZaQ ZfD [] E0 (Zae (tVar 1) tNil)) (ZaI 7)) (tSeq (tAsg (ZaQ ZcR [] E0 (Zae (tVar 5) (Zae (tVar 6) (Zae (tLst tNil) (Zae (tVar 4) (Zae (tVar 7) tNil)))))) (gTup K 2 (ZcP (ZaI 8) (ZcP (ZaI 9) gNil)))) (tSeq (tAsg (ZaQ (Zdj C CC) [] E0 (Zae (tVar 5) (Zae (tVar 6) (Zae (tLst tNil) (Zae (tVar 4) (Zae (tCB (Ze1 K) (Zae (tVar 7) tNil)) tNil)))))) (gTup K 2 (ZcP (ZaI 10) (ZcP (ZaI 11) gNil)))) (tSeq (tIfS (tOr (ZaW (tOp rNeA (tLst (Zae (tFld K (tVar 10) "frames") (Zae (tFld K (tVar 10) "left") (Zae (tFld K (tVar 10) "news") (Zae (tFld K (tVar 10) "gone") (Zae (tFld K (tVar 10) "end") tNil)))))) (tVar 8))) (ZaW (tOp (rNeL K) (tVar 11) (tVar 9)))) (tRet (tC (.bl false))) ZbH) (tSeq (tAsg (ZaQ (ZcY K) [] E0 (Zae (tVar 5) (Zae (tLst tNil) tNil))) (ZaI 12)) (tSeq (Zfn (tAnd (ZaW (tOp rIsN (tOp (rIxA K) (tVar 12) (tC (.int 4))) (tC .non))) (ZaW (tOp (rI0 fun i j=>.bl (decide (i < j))) (tOp (rIxA K) (tVar 12) (tC (.int 3))) (tVar 4)))) (ZdI (ZaQ ZcW [] E0 (Zae (tVar 5) (Zae (tVar 12) tNil))))) (tRet (tOp rEqA (tVar 12) (tVar 8))))))))))))))) { nx:=fun _ H'=>Q .non H',rt:=Q } [some (.ref a),none,none,none,none,none,none,none,none,none,none,none,none] H:=law_r0 k HHand hS hlen
 refine' ZaB [some (.ref a),none,none,none,none,none,none,none,none,none,none,none,none] rfl ?hb main
 case hb=>exact (Zaf (Zbl (i:=1) nd rfl (Or.inl rfl) (ZaS Zkn hr.m (by rfl) (Zac (pv 0) Zad))) (Zaf (Zbl (i:=2) nd rfl (Or.inl rfl) (ZaS ZaP hr.m (by rfl) (Zac (pv 1) (Zab Zaa Zad)))) (Zaf (Zbd (i:=3) nd rfl (Or.inl rfl) (Zai (k_ix (K:=K) rfl) (ZaH (Za4 (ZaS ZaP hr.m (by rfl) (Zac (pv 1) (Zab Zaa Zad))) (Zc9 (ZaN Zej (Zcp ZbB Zaa) (ZaS ZaP hr.m (by rfl) (Zac (pv 1) (Zc9 (ZaN Zh8 Zaa Zaa) Zad)))) Zad))) (ZaN ZfS (ZaS ZaP hr.m (by rfl) (Zac (pv 1) (Zab Zaa Zad))) Zaa) (fun _ _=>rfl))) (Zaf (Zbd (i:=4) nd rfl (Or.inl rfl) (Zai (k_ix (K:=K) rfl) (ZaH (Za4 (ZaS ZaP hr.m (by rfl) (Zac (pv 1) (Zab Zaa Zad))) (Zab Zaa Zad))) (ZaS ZaP hr.m (by rfl) (Zac (pv 1) (Zab Zaa Zad))) (fun _ _=>rfl))) (Zaf (Zbl (i:=5) nd rfl (Or.inl rfl) (ZaS Zgf hr.m (by rfl) (Zac (pv 3) (Zac (pv 2) Zad)))) (Zaf (Zbl (i:=6) nd rfl (Or.inl rfl) (ZaS ZiY hr.m (by rfl) (Zac (pv 2) (Zav (Zai (k_ix (K:=K) rfl) (ZaH (Zab Zaa (Zab Zaa (Za4 (ZaS Zha hr.m (by rfl) (Zac (pv 1) Zad)) Zad)))) (ZaS ZaP hr.m (by rfl) (Zac (pv 1) (Zab Zaa Zad))) (fun _ _=>rfl)) Zad)))) (Zaf (Zbl (i:=7) nd rfl (Or.inl rfl) (ZaS ZiX hr.m (by rfl) (Zac (pv 1) Zad))) (Zaf (Za3 (ZaS Zg9 hr.m (by rfl) (Zac (pv 5) (Zac (pv 6) (Zbs (ZaH Zad) (Zac (pv 4) (Zac (pv 7) Zad)))))) (ZbQ (K:=K) (n:=2) rfl rfl (ZaF (ZaA (i:=8) nd rfl (Or.inl rfl)) (ZaF (ZaA (i:=9) nd rfl (Or.inl rfl)) Zb5)))) (Zaf (Za3 (ZaS Cridden hr.m (by rfl) (Zac (pv 5) (Zac (pv 6) (Zbs (ZaH Zad) (Zac (pv 4) (Za4 (Zbf (ZdT (K:=K) rfl) (by rfl) B.b_list ZdZ (Zac (pv 7) Zad)) Zad)))))) (ZbQ (K:=K) (n:=2) rfl rfl (ZaF (ZaA (i:=10) nd rfl (Or.inl rfl)) (ZaF (ZaA (i:=11) nd rfl (Or.inl rfl)) Zb5)))) (Zaf (ZaZ (PW.pt (Ziz (Zar (op_neA hu) (ZaH (Zbc (Zbj (K:=K) rfl (pv 10) rfl) (Zbc (Zbj (K:=K) rfl (pv 10) rfl) (Zbc (Zbj (K:=K) rfl (pv 10) rfl) (Zbc (Zbj (K:=K) rfl (pv 10) rfl) (Zbc (Zbj (K:=K) rfl (pv 10) rfl) Zad)))))) (pv 8) (Zau _)) (Zgz (Zar (k_neL (K:=K) rfl hu) (pv 11) (pv 9) (Zau _))))) (Zal (Zay ZiB)) ZaE) (Zaf (Zbl (i:=12) nd rfl (Or.inl rfl) (ZaS Zdd hr.m (by rfl) (Zac (pv 5) (Zbs (ZaH Zad) Zad)))) (Zaf (Zeh PassesOwn.never (PW.pt (Zbk (Zar Zeu (Zai (k_ix (K:=K) rfl) (pv 12) Zaa (fun _ _=>rfl)) Zcr (Zau _)) (Zba (Zar ZhA (Zai (k_ix (K:=K) rfl) (pv 12) Zaa (fun _ _=>rfl)) (pv 4) (Zau _))))) (Zal (Zbm (ZaS ZdH hr.m (by rfl) (Zac (pv 5) (Zac (pv 12) Zad)))))) (Zal (Zay (ZcN (op_eqA hu) (pv 12) (pv 8) (Zau _))))))))))))))))
end
section
open PySem.W PyProof.Rows
theorem Zms (w:World) {mg:Str->Option Value} {fa:Addr} {h:Heap} (X:(KK w.params).In h) (G:h.Ns mainGlobals mg) (hfa:mg "law"=some (.ref fa)):∃ fd:FuncData,(∀ (s:Shared) (v:Value),BindsTo s fd ⟨[v],[]⟩ [("script",v)])/\∀ base:Heap,(KK w.params).In base->base.Ns mainGlobals mg->FnOk PySem.Challenge.rw_midlanes_k50_whole_deepest_leave.prog w (KK w.params) mg base CX0 14 fa fd ["script"] (Zjc (KK w.params)):=by
 cases hfa.symm.trans (gv X G (v:=.ref 348))
 have GG:Glb (KK w.params) w mg:=⟨⟨120,gv X G,by kernel_rfl,by decide +kernel,[("test",340,121),("tell",343,122),("take",345,123)],3,by kernel_rfl,.cons ⟨rfl,⟨_,_,_,lo 121 (oT #[xs "zero" 341,xs "below" 342]),rfl,rfl,Zcc rfl,.cons ⟨_,rfl⟩ (.cons ⟨_,rfl⟩ (.nil))⟩⟩ (.cons ⟨rfl,⟨_,_,_,lo 122 (oT #[xs "tell" 344]),rfl,rfl,Zcc rfl,.cons ⟨_,rfl⟩ (.nil)⟩⟩ (.cons ⟨rfl,⟨_,_,_,lo 123 (oT #[xs "take" 346]),rfl,rfl,Zcc rfl,.cons ⟨_,rfl⟩ (.nil)⟩⟩ (.nil)))⟩,⟨228,gv X G⟩,⟨360,gv X G⟩,⟨27,gv X G,_,_,_,lo 27 (oT #[xs "put" 204,xs "copy" 205,xs "plus" 206,xs "less" 207,xs "times" 208]),rfl,rfl,Zcc rfl,.cons ⟨_,rfl⟩ (.cons ⟨_,rfl⟩ (.cons ⟨_,rfl⟩ (.cons ⟨_,rfl⟩ (.cons ⟨_,rfl⟩ (.nil)))))⟩⟩
 have HHand:CHand (KK w.params) 89:=⟨nc,na,na,na,na,na,na⟩
 have HChances:CChances (KK w.params) 154:=⟨nc,na,na⟩
 exact ⟨_,fun s v=>.of_eq rfl,fun base _ _=>ZjG (B:=⟨gz X G,gz X G,gz X G,gz X G,gz X G,gz X G,gz X G,gz X G,gz X G,gz X G⟩) (G:=GG) (HHand:=HHand) (HChances:=HChances) (T_of_word:=(tf1 X G 21 "midlanes.forms" 187 20)) (T_worth:=(tf2 X G 26 "midlanes.forms" 187 25)) (T_row_of:=(tf2 X G 34 "midlanes.rows" 202 33)) (T_goes_to_row:=(tf2 X G 41 "midlanes.rows" 202 40)) (T_new_frame:=(tf3 X G 100 "midlanes.hand" 226 99)) (T_reckoned:=(tf2 X G 107 "midlanes.hand" 226 106)) (T_row_behind:=(tf3 X G 114 "midlanes.hand" 226 113)) (T_is_door:=(tf2 X G 119 "midlanes.papers" 330 118)) (T_edges_of:=(tf1 X G 130 "midlanes.judge" 338 129)) (T_words_in:=(tf1 X G 165 "midlanes.rides" 358 164)) (T_frames_of:=(tf2 X G 170 "midlanes.rides" 358 169)) (T_ridden:=(tf5 X G 177 "midlanes.rides" 358 176)) (T_doors_of:=(tf2 X G 184 "midlanes.rides" 358 183)) (T_place_of:=(tf1 X G 191 "midlanes.rides" 358 190)) (T_has_room:=(tf1 X G 198 "midlanes.rides" 358 197)) (T_go_lane:=(tf5 X G 205 "midlanes.rides" 358 204)) (T_edge_ahead:=(tf3 X G 212 "midlanes.rides" 358 211)) (T_away_reason:=(tf5 X G 219 "midlanes.rides" 358 218)) (T_rows_ahead:=(tf2 X G 226 "midlanes.rides" 358 225)) (T_go_edge:=(tf4 X G 231 "midlanes.rides" 358 230)) (T_last_row:=(tf2 X G 238 "midlanes.rides" 358 237)) (T_box_number:=(tf3 X G 245 "midlanes.rides" 358 244)) (T__law_bag:=(tf1 X G 250 "law_midlanes_k50_whole_deepest_leave" 522 249)) (T__law_draw:=(tf2 X G 257 "law_midlanes_k50_whole_deepest_leave" 522 256)) (T__law_number:=(tf1 X G 264 "law_midlanes_k50_whole_deepest_leave" 522 263)) (T__law_program:=(tf2 X G 271 "law_midlanes_k50_whole_deepest_leave" 522 270)) (T__law_lane:=(tf2 X G 276 "law_midlanes_k50_whole_deepest_leave" 522 275)) (T__law_begun:=(tf2 X G 283 "law_midlanes_k50_whole_deepest_leave" 522 282)) (T__law_step:=(tf2 X G 290 "law_midlanes_k50_whole_deepest_leave" 522 289)) (T__law_goes:=(tf4 X G 295 "law_midlanes_k50_whole_deepest_leave" 522 294)) (T__law_worth:=(tf3 X G 302 "law_midlanes_k50_whole_deepest_leave" 522 301)) (T__law_under:=(tf2 X G 307 "law_midlanes_k50_whole_deepest_leave" 522 306)) (T__law_words:=(tf1 X G 312 "law_midlanes_k50_whole_deepest_leave" 522 311)) (T__law_doors:=(tf1 X G 319 "law_midlanes_k50_whole_deepest_leave" 522 318)) (T__law_done:=(tf6 X G 324 "law_midlanes_k50_whole_deepest_leave" 522 323)) (T__law_in_lane:=(tf6 X G 329 "law_midlanes_k50_whole_deepest_leave" 522 328)) (T__law_ridden:=(tf5 X G 336 "law_midlanes_k50_whole_deepest_leave" 522 335)) (T__law_when:=(tf1 X G 341 "law_midlanes_k50_whole_deepest_leave" 522 340)) (T_Hand___init__:=(ti3 X G 53 "midlanes.hand" 226 52)) (T_Hand_go:=(tm1 60 "midlanes.hand" 226 59)) (T_Hand_end_at:=(tm2 67 "midlanes.hand" 226 66)) (T_Hand_do_row:=(tm2 72 "midlanes.hand" 226 71)) (T_Hand_give_back:=(tm2 79 "midlanes.hand" 226 78)) (T_Hand_do_own:=(tm3 86 "midlanes.hand" 226 85)) (T_Chances___init__:=(ti2 X G 144 "midlanes.rides" 358 143)) (T_Chances_ask:=(tm1 151 "midlanes.rides" 358 150)) (T_law:=ZbF (lo 348 (oG "law" Zks "law_midlanes_k50_whole_deepest_leave" 522 347)) (by kernel_rfl) (by kernel_rfl))⟩
end
end My
open PySem PySem.W PyProof.Rows
set_option maxHeartbeats 0 in
theorem PySem.Challenge.cw_midlanes_k50_whole_deepest_leave_holds : PySem.Challenge.rw_midlanes_k50_whole_deepest_leave.Holds := by
 refine holds_law My.SD fun said=>?_
 refine holds_open (XP:=XL My.QQ []) (YP:=My.HH.says) (L2.ZjF My.L0 My.L1) My.HH.of My.HH.keeps (fun s e=>xl_of s (Bool.and_eq_true_iff.mp e).1) XL.keeps (by rfl) (by rfl) (by rfl) (fun s e=>recFacts_of (Bool.and_eq_true_iff.mp e).2) (by rfl) said (by decide +kernel) ⟨rfl,rfl,rfl,rfl,rfl,by decide +kernel⟩ ?hw ?hc
 case hw=>w_witness2
 exact L2.ZiZ (l:=PySem.Challenge.rw_midlanes_k50_whole_deepest_leave) (n:=63) (k:=14) (x:="script") (CX:=fun _=>L2.CX0) (sp:=fun w=>L2.Zjc _) rfl (by decide) rfl ⟨rfl,by decide,by decide⟩ (fun w h Y=>PySem.W.kIn_of Y) (fun w mg fa h KX G hmg=>My.Zms w KX G hmg) (fun _ _ a ns hl _ hS=>L2.Zkr hl hS) (fun _ _ _ _ _ z=>z)
